import Derived.Test.YtomijmikkbhgmaaGreatQa
import Derived.Test.YtomijmikkbhgmaaGreatQd
import Derived.Test.YtomijmikkbhgmaaGreatT7
import Derived.Test.YtomijmikkbhgmaaGreatT13
import Derived.BigQuiet
import Derived.Deep.QuietTactic
import Derived.Test.YtomijmikkbhgmaaGreatT11
import Derived.Test.YtomijmikkbhgmaaGreatLm
import Derived.Test.YtomijmikkbhgmaaGreatT2
import Derived.Test.YtomijmikkbhgmaaGreatT1
namespace Go.Proofs.YtomijmikkbhgmaaGreat
open Go.RowKit

/-- Circle's row: which events are gone. -/
structure Gon (w wr : World) (bT n : Nat) (g : Nat → Bool) : Prop where
  hb : Below w.heap.size w wr
  row : wr.rowIs bT 4 n (fun i => .bool (g i))
  n1 : w.heap.size ≤ bT

theorem Gon.set {w wr : World} {bT n : Nat} {g : Nat → Bool} (h : Gon w wr bT n g) (i : Nat) : Gon w (wr.setCell ⟨bT, i, none⟩ (.bool true)) bT n (take1 g i) := by
  refine ⟨h.hb.setCell h.n1 _, (h.row.set i _).congr fun j _ => ?_, h.n1⟩
  unfold take1
  by_cases e : j = i
  · simp [e]
  · simp [e]

set_option maxHeartbeats 1000000 in
theorem circle_any (n : Nat) (hn : n ≤ 100000) (A : List (Int × Int)) (hA : Arws n A) (hl : A.length ≤ 1000000) (v : Value) (w : World) (h : ArwAt w v A) :
    Calls Tryz.prog 114 #[.int .i64 n, v] w fun e w' => ∃ b : Bool, e = .returned (.bool b) ∧ (b = true ↔ Cyc n A) ∧ Below w.heap.size w w' := by
  have HA : Hid (Arws n A ∧ ArwAt w v A) := ⟨hA, h⟩
  clear hA h
  have hmk := run_make_row' (P := Tryz.prog) 139 4 (.bool false) 1 Tryz.underlying139 Tryz.infoBool rfl .i64 .i64 n (by omega) (by omega)
  have HG0 : Hid (Gon w (w.alloc (.cells (madeCells #[.bool false] n) 4)) w.heap.size n (fun _ => false)) := ⟨below_alloc _ _, World.rowIs_made w (.bool false) n 4, Nat.le_refl _⟩
  go_enter Tryz.func114, Tryz.ntmps114
  go_wp2_with fail
  clear hmk
  go_loopw [6, 7] (fun lf t wr => ∃ (k : Nat) (g : Nat → Bool), k ≤ n ∧ t = .int .i64 k ∧ lf = .int .i64 (stay n g : Nat) ∧ Hid (Turn n A k 0 g) ∧ Hid (Gon w wr w.heap.size n g)) (fun _ t _ => n - (intOf t).toNat)
  case atStart => exact ⟨0, _, Nat.zero_le _, rfl, by rw [stay_all], Turn.first n A, HG0.out⟩
  case round =>
    clear HG0
    obtain ⟨k, g, hk, rfl, rfl, ht, hg⟩ := hrel
    by_cases hlt : k < n
    · have HT : Hid (Turn n A k 0 g) := ht
      have HG := hg
      have hkI : (k : Int) < (n : Int) := by omega
      clear ht hg
      go_wp2_with fail
      go_loopw [6, 8] (fun lf t wr => ∃ (i : Nat) (g : Nat → Bool), i ≤ n ∧ t = .int .i64 i ∧ lf = .int .i64 (stay n g : Nat) ∧ Hid (Turn n A k i g) ∧ Hid (Gon w wr w.heap.size n g)) (fun _ t _ => n - (intOf t).toNat)
      case atStart => exact ⟨0, g, Nat.zero_le _, rfl, rfl, HT.out, HG.out⟩
      case round =>
        clear HT HG
        obtain ⟨i, f, hi, rfl, rfl, ht, hg⟩ := hrel
        by_cases hin : i < n
        · have hiI : (i : Int) < (n : Int) := by omega
          have r0 := hg.out.row.cell hin
          have z0 := hg.out.row.frozen i
          have s0 := hg.out.row.lt
          have HT := ht
          have HG := hg
          clear ht hg
          cases hf : f i
          · rw [hf] at r0
            have hst := stay_take hin hf
            have hsle := stay_le n f
            go_wp2_with fail
            refine (leads_any n hn A HA.out.1 hl f _ (i : Int) v _ (HA.out.2.keep HG.out.hb) HG.out.row).mono ?_
            cases hld : ldB f (i : Int) A
            · have HT2 : Hid (Turn n A k (i + 1) (take1 f i)) := HT.out.takes HA.out.1 hin hf hld
              have HG2 : Hid (Gon w (wr.setCell ⟨w.heap.size, i, none⟩ (.bool true)) w.heap.size n (take1 f i)) := HG.out.set i
              rintro e w3 ⟨rfl, rfl⟩
              generalize hs1 : stay n f = s1 at hst hsle ⊢
              generalize hs2 : stay n (take1 f i) = s2 at hst
              have HS2 : Hid (stay n (take1 f i) = s2) := hs2
              clear hs1 hs2
              go_wp2_with fail
              go_roundw
              case measure => simp [intOf]; omega
              case rel => exact ⟨i + 1, take1 f i, by omega, by go_num, by rw [HS2.out]; go_num, HT2.out, HG2.out⟩
            · have HT2 : Hid (Turn n A k (i + 1) f) := HT.out.stays hld
              rintro e w3 ⟨rfl, rfl⟩
              clear hst
              go_wp2_with fail
              go_roundw
              case measure => simp [intOf]; omega
              case rel => exact ⟨i + 1, f, by omega, by go_num, rfl, HT2.out, HG.out⟩
          · rw [hf] at r0
            have HT2 : Hid (Turn n A k (i + 1) f) := HT.out.gone hf
            go_wp2_with fail
            go_roundw
            case measure => simp [intOf]; omega
            case rel => exact ⟨i + 1, f, by omega, by go_num, rfl, HT2.out, HG.out⟩
        · have e : i = n := by omega
          subst e
          have HT2 : Hid (Turn i A (k + 1) 0 f) := ht.out.next
          have HG := hg
          clear ht hg
          go_wp2_with fail
          go_roundw
          case measure => simp [intOf]; omega
          case rel => exact ⟨k + 1, f, by omega, by go_num, rfl, HT2.out, HG.out⟩
    · have e : k = n := by omega
      subst e
      have HR : Hid (decide (0 < stay k g) = true ↔ Cyc k A) := ht.out.last HA.out.1
      have hb := hg.out.hb
      clear ht hg
      generalize stay k g = s at HR ⊢
      by_cases hs : 0 < s
      · have hsI : (0 : Int) < (s : Int) := by omega
        go_wp2_with fail
        go_ret
        exact ⟨true, rfl, by simpa [hs] using HR.out, hb⟩
      · have hsI : (s : Int) ≤ 0 := by omega
        go_wp2_with fail
        go_ret
        exact ⟨false, rfl, by simpa [hs] using HR.out, hb⟩

end Go.Proofs.YtomijmikkbhgmaaGreat

namespace Go.Proofs.YtomijmikkbhgmaaGreat
open Go.RowKit

/-- An execution that fits its events. -/
structure XOk (E : List Evt) (x : Exe) : Prop where
  f : x.from'.length = (rdsX E 0).length
  o3 : x.order.length = 3
  l96 : ∀ l ∈ x.order, l.length ≤ 96
  ar : Arws E.length (arwL E x)

theorem flat_le {α β : Type} (f : α → List β) (m : Nat) (l : List α) (h : ∀ x ∈ l, (f x).length ≤ m) : (l.flatMap f).length ≤ l.length * m := by
  induction l with
  | nil => simp
  | cons a l ih =>
    rw [List.flatMap_cons, List.length_append, List.length_cons, Nat.add_mul]
    have h1 := h a (List.mem_cons_self ..)
    have h2 := ih (fun x hx => h x (List.mem_cons_of_mem _ hx))
    omega

theorem ordAt_len {E : List Evt} {x : Exe} (h : XOk E x) (loc : Int) : (ordAt x loc).length ≤ 96 := by
  unfold ordAt
  rw [List.getD]
  cases hg : x.order[loc.toNat]? with
  | none => simp
  | some l => exact h.l96 l (List.mem_of_getElem? hg)

theorem arwL_len {E : List Evt} (hE : E.length ≤ 96) {x : Exe} (h : XOk E x) : (arwL E x).length ≤ 40000 := by
  unfold arwL
  rw [List.length_append]
  have h1 := flat_le (arw1 x) 97 ((rdsX E 0).zip x.from') (fun q _ => by
    unfold arw1
    rw [List.length_append, fanL_len]
    have := restL_len (ordAt x q.1.2.loc) q.2
    have := ordAt_len h q.1.2.loc
    split <;> simp <;> omega)
  have h2 := flat_le tailsL 9216 x.order (fun l hl => by
    have h3 := tailsL_len l
    have h4 := h.l96 l hl
    have h5 : l.length * l.length ≤ 96 * 96 := Nat.mul_le_mul h4 h4
    omega)
  have h3 := rdsX_len E 0
  rw [List.length_zip] at h1
  rw [h.o3] at h2
  have h4 : min (rdsX E 0).length x.from'.length * 97 ≤ 96 * 97 := Nat.mul_le_mul_right 97 (by omega)
  omega

/-- P6: are they Reads or Writes of one location, and of one thread? -/
def cohP (_ _ : Nat) (a b : Evt) : Bool := memB a.kind && memB b.kind && a.thread == b.thread && a.loc == b.loc

set_option maxRecDepth 20000 in
set_option maxHeartbeats 4000000 in
theorem incoherent_any (E : List Evt) (hE : E.length ≤ 96) (hloc : ∀ y ∈ E, locB y.loc = true) (x : Exe) (hX : XOk E x) (v vf vo : Value) (w : World) (hev : Ev9At w v E) (hx : ExeC w vf vo x) :
    Calls Tryz.prog 111 #[v, .agg #[vf, vo]] w fun e w' => ∃ b : Bool, e = .returned (.bool b) ∧ (b = true ↔ Cyc E.length (arwL E x ++ allD (pairB E cohP) E.length E.length)) ∧ Below w.heap.size w w' := by
  have hAL := arwL_len hE hX
  have HC0 : Hid (∀ (w' : World) (u : Value), ArwOwn w.heap.size w' u (arwL E x ++ allD (pairB E cohP) E.length E.length) → Calls Tryz.prog 114 #[.int .i64 E.length, u] w' fun e w'' => ∃ b : Bool, e = .returned (.bool b) ∧ (b = true ↔ Cyc E.length (arwL E x ++ allD (pairB E cohP) E.length E.length)) ∧ Below w'.heap.size w' w'') := fun w' u hu =>
    circle_any E.length (by omega) _ (hX.ar.append (allD_arws _ _)) (by rw [List.length_append]; have := allD_len (pairB E cohP) E.length E.length; have h5 : E.length * E.length ≤ 96 * 96 := Nat.mul_le_mul hE hE; omega) u w' hu.at'
  have HAR : Hid (∀ w', Below w.heap.size w w' → Calls Tryz.prog 144 #[v, .agg #[vf, vo]] w' fun e w'' => ∃ u, e = .returned u ∧ ArwOwn w'.heap.size w'' u (arwL E x) ∧ Below w'.heap.size w' w'') := fun w' hb => arrows_any E hE hloc x hX.f hX.o3 hX.l96 v vf vo w' (hev.keep hb) (hx.keep hb)
  obtain ⟨aof, capf, hvf⟩ := hx.f.form
  obtain ⟨aoo, bo, offo, capo, hso⟩ := hx.o
  have hvo := hso.hv
  obtain ⟨ao, b, off, cap, hv, ha, _, hc⟩ := hev
  subst hv hvf hvo
  have HC : Hid (∀ k y, E[k]? = some y → Ev9C w b (off + k * 9) y) := hc
  obtain ⟨i0, hi, hz0, hz1, hz2⟩ := info_parts Tryz.infoArw
  have HI : Hid (Tryz.prog.info? 178 = some i0 ∧ i0.zero = some (.agg #[.int .i64 0, .int .i64 0]) ∧ i0.size = 2 ∧ i0.bytes = 16) := ⟨hi, hz0, hz1, hz2⟩
  have hsq : E.length * E.length ≤ 9216 := Nat.mul_le_mul hE hE
  generalize hn : E.length = n at *
  generalize arwL E x = A0 at *
  have HE : Hid (E.length = n) := hn
  clear hi hz0 hz1 hz2 hc hso hn hX hx hloc
  go_enter Tryz.func111, Tryz.ntmps111
  go_wp2_with fail
  refine (HAR.out _ (below_alloc _ _)).mono ?_
  rintro e w2 ⟨u2, rfl, hu2, hb2⟩
  have HO : Hid (ArwOwn w.heap.size w2 u2 (A0 ++ allD (pairB E cohP) n 0)) := by
    show ArwOwn w.heap.size w2 u2 (A0 ++ [])
    rw [List.append_nil]; exact own_base hu2 (by simp)
  have hbw2 : Below w.heap.size w w2 := below_more (below_alloc _ _) hb2
  clear hu2 hb2 HAR
  go_wp2_with fail
  go_loopw [5, 6] (fun u i wr => ∃ k : Nat, k ≤ n ∧ i = .int .i64 k ∧ Hid (ArwOwn w.heap.size wr u (A0 ++ allD (pairB E cohP) n k)) ∧ Below w.heap.size w wr) (fun _ i _ => n - (intOf i).toNat)
  case atStart => exact ⟨0, Nat.zero_le _, rfl, HO.out, hbw2⟩
  case round =>
    clear HO hbw2
    obtain ⟨k, hk, rfl, hown, hb⟩ := hrel
    by_cases hlt : k < n
    · obtain ⟨y, hy⟩ := get_of_lt (l := E) (k := k) (by have := HE.out; omega)
      have HY : Hid (E[k]? = some y) := hy
      obtain rfl := ha (by intro h; rw [h] at hy; simp at hy)
      have hkI : (k : Int) < (n : Int) := by omega
      have hlk := allD_len (pairB E cohP) n k
      have hlk2 : k * n ≤ n * n := Nat.mul_le_mul_right n hk
      have HO : Hid (ArwOwn w.heap.size wr u5 (A0 ++ (allD (pairB E cohP) n k ++ dnT (pairB E cohP) k (k + 1)))) := by rw [dnT_start, List.append_nil]; exact hown.out
      clear hown hy
      go_wp2_with fail
      go_loopw [5, 7] (fun u i wr => ∃ t : Nat, k + 1 ≤ t ∧ t ≤ n ∧ i = .int .i64 t ∧ Hid (ArwOwn w.heap.size wr u (A0 ++ (allD (pairB E cohP) n k ++ dnT (pairB E cohP) k t))) ∧ Below w.heap.size w wr) (fun _ i _ => n - (intOf i).toNat)
      case atStart => exact ⟨k + 1, Nat.le_refl _, by omega, by go_num, HO.out, hb⟩
      case round =>
        clear HO hb
        obtain ⟨t, ht1, ht2, rfl, hown, hb⟩ := hrel
        have HO := hown
        have hsz := hb.size
        by_cases htn : t < n
        · obtain ⟨z, hz⟩ := get_of_lt (l := E) (k := t) (by have := HE.out; omega)
          have HP : Hid (pairB E cohP k t = (memB y.kind && memB z.kind && y.thread == z.thread && y.loc == z.loc)) := pairB_get HY.out hz cohP
          obtain ⟨c0, c1, c2, c3, _⟩ := ev9C_keeps _ _ _ _ _ hb (HC.out k y HY.out)
          obtain ⟨d0, d1, d2, d3, _⟩ := ev9C_keeps _ _ _ _ _ hb (HC.out t z hz)
          have htI : (t : Int) < (n : Int) := by omega
          have hdl := dnT_len (pairB E cohP) k t
          have hA1 : (A0 ++ (allD (pairB E cohP) n k ++ dnT (pairB E cohP) k t)).length ≤ 60000 := by rw [List.length_append, List.length_append]; omega
          have HNO : Hid (pairB E cohP k t = false → A0 ++ (allD (pairB E cohP) n k ++ dnT (pairB E cohP) k t) = A0 ++ (allD (pairB E cohP) n k ++ dnT (pairB E cohP) k (t + 1))) := fun h => by rw [dnT_no h]
          have HYES : Hid (pairB E cohP k t = true → A0 ++ (allD (pairB E cohP) n k ++ dnT (pairB E cohP) k (t + 1)) = (A0 ++ (allD (pairB E cohP) n k ++ dnT (pairB E cohP) k t)) ++ [((k : Int), (t : Int))]) := fun h => by rw [dnT_yes (by omega) h]; simp
          generalize A0 ++ (allD (pairB E cohP) n k ++ dnT (pairB E cohP) k t) = A1 at HO hA1 HNO HYES
          generalize hA2 : A0 ++ (allD (pairB E cohP) n k ++ dnT (pairB E cohP) k (t + 1)) = A2 at HNO HYES
          have HA2 : Hid (A0 ++ (allD (pairB E cohP) n k ++ dnT (pairB E cohP) k (t + 1)) = A2) := hA2
          clear hA2
          clear hown hz
          go_wp2_with fail
          refine (memory_any y.kind _).mono ?_
          generalize hmy : memB y.kind = MY at HP
          rintro e w3 ⟨rfl, hw3⟩
          replace hw3 := hw3.symm
          subst hw3
          go_wp2_with fail
          refine (memory_any z.kind _).mono ?_
          generalize hmz : memB z.kind = MZ at HP
          rintro e w3 ⟨rfl, hw3⟩
          replace hw3 := hw3.symm
          subst hw3
          cases MY
          · have HM : Hid (A1 = A2) := HNO.out (HP.out.trans (by rfl))
            go_wp2_with fail
            go_quiet (fail)
            go_wp2_with fail
            go_roundw
            case measure => simp [intOf]; omega
            case rel => exact ⟨t + 1, by omega, by omega, by go_num, by rw [HA2.out, ← HM.out]; exact HO.out, ⟨hb.os, hb.tape, hb.output, hb.size, hb.block⟩⟩
          · cases MZ
            · have HM : Hid (A1 = A2) := HNO.out (HP.out.trans (by rfl))
              go_wp2_with fail
              go_quiet (fail)
              go_wp2_with fail
              go_roundw
              case measure => simp [intOf]; omega
              case rel => exact ⟨t + 1, by omega, by omega, by go_num, by rw [HA2.out, ← HM.out]; exact HO.out, ⟨hb.os, hb.tape, hb.output, hb.size, hb.block⟩⟩
            · cases h1 : y.thread == z.thread
              · have HM : Hid (A1 = A2) := HNO.out (HP.out.trans (by rw [h1]; rfl))
                go_wp2_with fail
                go_quiet (fail)
                go_wp2_with fail
                go_roundw
                case measure => simp [intOf]; omega
                case rel => exact ⟨t + 1, by omega, by omega, by go_num, by rw [HA2.out, ← HM.out]; exact HO.out, ⟨hb.os, hb.tape, hb.output, hb.size, hb.block⟩⟩
              · cases h2 : y.loc == z.loc
                · have HM : Hid (A1 = A2) := HNO.out (HP.out.trans (by rw [h1, h2]; rfl))
                  go_wp2_with fail
                  go_quiet (fail)
                  go_wp2_with fail
                  go_roundw
                  case measure => simp [intOf]; omega
                  case rel => exact ⟨t + 1, by omega, by omega, by go_num, by rw [HA2.out, ← HM.out]; exact HO.out, ⟨hb.os, hb.tape, hb.output, hb.size, hb.block⟩⟩
                · have HM : Hid (A2 = A1 ++ [((k : Int), (t : Int))]) := HYES.out (HP.out.trans (by rw [h1, h2]; rfl))
                  have HOD : Hid (∀ nq, ArwOwn w.heap.size (wr.drewN nq) u5 A1) := fun nq => HO.out
                  have HBD : Hid (∀ nq, Below w.heap.size w (wr.drewN nq)) := fun nq => ⟨hb.os, hb.tape, hb.output, hb.size, hb.block⟩
                  go_wp2_with fail
                  go_quiet (fail)
                  go_wp2_with (at_builtin; refine append_new _ rfl _ _ 151 rfl w.heap.size 178 i0 (.agg #[.int .i64 0, .int .i64 0]) 2 16 Tryz.underlying151 HI.out.1 HI.out.2.1 HI.out.2.2.1 HI.out.2.2.2 rfl (by decide) u5 A1.length (A1.flatMap arwV) rfl ((HOD.out _).alloc _) (some ⟨wr.heap.size, 0, none⟩) 1 1 (arwV ((k : Int), (t : Int))) rfl (fun h => by cases h) rfl (fun ad had => by cases had; exact new_many rfl) (by simp [arwV, Value.oneCell']) (by unfold maxLen; omega) (by omega) (by simp; omega) ?_)
                  intro u' w4 hown' hgrow _
                  have hb4 : Below w.heap.size w w4 := Below.grown ((HBD.out _).alloc hsz _) hgrow (by simp; omega) (fun kk e => (HO.out.lt kk e).1)
                  have HO4 : Hid (ArwOwn w.heap.size w4 u' A2) := by rw [HM.out]; exact arw_snoc hown'
                  clear hgrow hown' HOD HBD
                  go_wp2_with fail
                  go_roundw
                  case measure => simp [intOf]; omega
                  case rel => exact ⟨t + 1, by omega, by omega, by go_num, by rw [HA2.out]; exact HO4.out, hb4⟩
        · have htn2 : t = n := by omega
          subst htn2
          clear hown
          go_wp2_with fail
          go_roundw
          case measure => simp [intOf]; omega
          case rel => exact ⟨k + 1, by omega, by go_num, by rw [allD_step]; exact HO.out, hb⟩
    · have hkn : k = n := by omega
      subst hkn
      have HO := hown
      clear hown
      go_wp2_with fail
      refine (HC0.out _ _ HO.out).mono ?_
      rintro e w5 ⟨bb, rfl, hbb, hb5⟩
      have HBB : Hid (bb = true ↔ Cyc k (A0 ++ allD (pairB E cohP) k k)) := hbb
      clear hbb
      go_wp2_with fail
      go_ret
      exact ⟨_, rfl, HBB.out, below_more hb hb5⟩

end Go.Proofs.YtomijmikkbhgmaaGreat

namespace Go.Proofs.YtomijmikkbhgmaaGreat
open Go.RowKit

def headNe (l : List Int) (v : Int) : Bool := match l with
  | [] => true
  | a :: _ => a != v
/-- Is a Swap's Write not the first one behind what its Read reads from? -/
def torn1 (x : Exe) (q : (Nat × Evt) × Int) : Bool := q.1.2.ins.op == 3 && headNe (restL (ordAt x q.1.2.loc) q.2) ((q.1.1 : Int) + 1)
def tornB (E : List Evt) (x : Exe) : Bool := ((rdsX E 0).zip x.from').any (torn1 x)

set_option maxRecDepth 20000 in
set_option maxHeartbeats 4000000 in
theorem torn_any (E : List Evt) (hE : E.length ≤ 96) (hloc : ∀ y ∈ E, locB y.loc = true) (x : Exe) (hX : XOk E x) (v vf vo : Value) (w : World) (hev : Ev9At w v E) (hx : ExeC w vf vo x) :
    Calls Tryz.prog 112 #[v, .agg #[vf, vo]] w fun e w' => e = .returned (.bool (tornB E x)) ∧ Below w.heap.size w w' := by
  have HE : Hid (Ev9At w v E) := hev
  obtain ⟨ao, b, off, cap, hv, ha, _, hc⟩ := hev
  obtain ⟨aof, bf, off2, capf, hvf, haf, _, hcf⟩ := hx.f
  obtain ⟨aoo, bo, off3, capo, hvo, hao, _, hco⟩ := hx.o
  obtain ⟨hf, h3, h96, _⟩ := hX
  subst hv hvf hvo
  have HC : Hid (∀ k y, E[k]? = some y → Ev9C w b (off + k * 9) y) := hc
  have HF : Hid (∀ k a, x.from'[k]? = some a → IntC w bf (off2 + k * 1) a) := hcf
  have HO : Hid (∀ k l, x.order[k]? = some l → LCC w bo (off3 + k * 1) l) := hco
  have HL : Hid ((∀ y ∈ E, locB y.loc = true) ∧ x.order.length = 3 ∧ ∀ l ∈ x.order, l.length ≤ 96) := ⟨hloc, h3, h96⟩
  obtain rfl := hao (by intro h; rw [h] at h3; simp at h3)
  have HA : Hid (tornB E x = (((rdsX E 0).zip x.from').drop 0).any (torn1 x)) := rfl
  generalize tornB E x = B at HA ⊢
  have hrl := rdsX_len E 0
  have hRI : (rdsI E 0).length = (rdsX E 0).length := List.length_map ..
  have HRI : Hid (∀ (k : Nat) (p : Nat × Evt), (rdsX E 0)[k]? = some p → (rdsI E 0)[k]? = some (p.1 : Int) ∧ E[p.1]? = some p.2) := fun k p hp => ⟨by unfold rdsI; rw [List.getElem?_map, hp]; rfl, by have := rdsX_get (List.mem_of_getElem? hp); simpa using this.2⟩
  generalize rdsX E 0 = R at HA hf hrl hRI HRI
  rw [h3, hf]
  have HFL : Hid (x.from'.length = R.length) := hf
  clear hc hcf hco hloc h3 h96 hx hao hf
  go_enter Tryz.func112, Tryz.ntmps112
  go_wp2_with fail
  refine (reads_any E hE _ _ (HE.out.keep (below_alloc _ _))).mono ?_
  generalize rdsI E 0 = RI at hRI HRI
  rintro e w2 ⟨u2, rfl, hu2, hb2⟩
  obtain ⟨ao4, b4, off4, cap4, ⟨hv4, ha4, _, hc4⟩, hb4, _⟩ := hu2
  rw [hRI] at hv4
  subst hv4
  clear hRI
  have HR4 : Hid (∀ k a, RI[k]? = some a → IntC w2 b4 (off4 + k * 1) a) := hc4
  have e0 := keep_cell hb2 (b := w.heap.size) (off := 0) (u := .slice aof R.length capf) (by simp)
  have e1 := keep_cell hb2 (b := w.heap.size) (off := 1) (u := .slice (some ⟨bo, off3, none⟩) 3 capo) (by simp)
  have hbw2 := below_more (below_alloc _ _) hb2
  have HE0 : Hid (w2.cell? ⟨w.heap.size, 0, none⟩ = some (.slice aof R.length capf) ∧ w2.cell? ⟨w.heap.size, 1, none⟩ = some (.slice (some ⟨bo, off3, none⟩) 3 capo)) := ⟨e0, e1⟩
  clear hc4 hb2
  go_wp2_with fail
  clear e0 e1
  go_loopw [6] (fun i wr => ∃ k : Nat, k ≤ R.length ∧ i = .int .i64 k ∧ Hid (B = ((R.zip x.from').drop k).any (torn1 x)) ∧ Below w2.heap.size w2 wr) (fun i _ => R.length - (intOf i).toNat)
  case atStart => exact ⟨0, Nat.zero_le _, rfl, HA.out, Below.refl _ _⟩
  case round =>
    clear HA
    obtain ⟨k, hk, rfl, hn, hb⟩ := hrel
    obtain ⟨e0, e1⟩ := HE0.out
    replace e0 := keep_cell hb e0
    replace e1 := keep_cell hb e1
    by_cases hlt : k < R.length
    · obtain ⟨⟨r, y⟩, hp⟩ := get_of_lt hlt
      obtain ⟨f, hfk⟩ := get_of_lt (l := x.from') (k := k) (by have := HFL.out; omega)
      obtain ⟨hr1, hr2⟩ := HRI.out k _ hp
      have hfl : k < x.from'.length := by have := HFL.out; omega
      have hrE : r < E.length := (List.getElem?_eq_some_iff.1 hr2).1
      obtain rfl := haf (ne_nil hfl)
      obtain rfl := ha (ne_nil hrE)
      have ha4' := ha4 (by intro h; rw [h] at hr1; simp at hr1)
      subst ha4'
      obtain ⟨m, hym, hm3, hog⟩ := ordAt_get HL.out.2.1 (HL.out.1 y (List.mem_of_getElem? hr2))
      have hol := HL.out.2.2 _ (List.mem_of_getElem? hog)
      obtain ⟨vl, o0, aol, bl, offl, capl, hsl, hcl⟩ := HO.out _ _ hog
      have hvl := hsl.hv
      subst hvl
      have o1 : IntCap w (.slice aol (ordAt x y.loc).length capl) (ordAt x y.loc) := ⟨aol, bl, offl, capl, hsl, hcl⟩
      rw [Nat.mul_one] at o0
      have HN : Hid (B = ((y.ins.op == 3 && headNe (restL (ordAt x y.loc) f) ((r : Int) + 1)) || ((R.zip x.from').drop (k + 1)).any (torn1 x))) := hn.out.trans (by rw [drop_cons (zip_at hp hfk), List.any_cons]; rfl)
      clear hsl
      generalize ordAt x y.loc = L at o0 o1 hol hcl HN
      have HVL : Hid (IntCap w (.slice aol L.length capl) L) := o1
      have q0 := intC_keeps _ _ _ _ _ hb (HR4.out k _ hr1)
      have q1 := intC_keeps _ _ _ _ _ (below_more hbw2 hb) (HF.out k f hfk)
      obtain ⟨_, _, _, q2, q3, _⟩ := ev9C_keeps _ _ _ _ _ (below_more hbw2 hb) (HC.out r y hr2)
      have q4 := keep_cell (below_more hbw2 hb) o0
      unfold IntC at q0 q1
      rw [Nat.mul_one] at q0 q1
      rw [hym] at q2
      have hkI : (k : Int) < (R.length : Int) := by omega
      have hrI : (r : Int) < (E.length : Int) := by omega
      have hmI : (m : Int) < 3 := by omega
      clear hfl hn hp hfk hr1 hr2 o0 o1 hog ha4 haf ha
      cases h3 : y.ins.op == 3
      · have h3' : (y.ins.op != 3) = true := by simp [bne, h3]
        have HM : Hid (B = ((R.zip x.from').drop (k + 1)).any (torn1 x)) := HN.out.trans (by rw [h3]; rfl)
        go_wp2_with fail
        go_roundw
        case measure => simp [intOf]; omega
        case rel => exact ⟨k + 1, by omega, by go_num, HM.out, hb⟩
      · have h3' : (y.ins.op != 3) = false := by simp [bne, h3]
        have HN2 : Hid (B = (headNe (restL L f) ((r : Int) + 1) || ((R.zip x.from').drop (k + 1)).any (torn1 x))) := HN.out.trans (by rw [h3]; rfl)
        clear HN
        have HRS : Hid (∀ wz, Below w.heap.size w wz → Calls Tryz.prog 146 #[.slice aol L.length capl, .int .i64 f] wz fun e w' => e = .returned (restV L.length aol capl L f) ∧ w' = wz) := fun wz hz => rest_at L (by omega) f aol capl hcl _ (HVL.out.keep hz).at'
        have HRV : IntAt w (restV L.length aol capl L f) (restL L f) := (restV_cap HVL.out hcl f).at'
        obtain ⟨aoV, bV, offV, capV, hvV, haV, _, hcV⟩ := HRV
        rw [hvV] at HRS
        have HBQ : Hid (∀ nq, Below w.heap.size w (wr.drewN nq)) := fun nq => by have h := below_more hbw2 hb; exact ⟨h.os, h.tape, h.output, h.size, h.block⟩
        have HCV : Hid (∀ k a, (restL L f)[k]? = some a → IntC w bV (offV + k * 1) a) := hcV
        clear hcV hvV
        generalize restL L f = RL at HRS HN2 HCV haV
        go_wp2_with fail
        go_quiet ((go_at_call 146; exact Calls.quiet_of_same (HRS.out _ (HBQ.out _))))
        match RL, HN2, haV, HCV with
        | [], HN2, haV, HCV =>
          have HM : Hid (B = true) := HN2.out.trans (by rfl)
          go_wp2_with fail
          go_quiet (fail)
          go_wp2_with fail
          go_ret
          exact ⟨by rw [HM.out]; rfl, by have h := below_more hbw2 hb; exact ⟨h.os, h.tape, h.output, h.size, h.block⟩⟩
        | c :: RL', HN2, haV, HCV =>
          obtain rfl := haV (by simp)
          have c0 := intC_keeps _ _ _ _ _ (below_more hbw2 hb) (HCV.out 0 c rfl)
          unfold IntC at c0
          rw [Nat.zero_mul, Nat.add_zero] at c0
          have hl0 : (((c :: RL').length : Int) == 0) = false := by first | (simp; done) | (simp; omega)
          have hl1 : (0 : Int) < ((c :: RL').length : Int) := by first | (simp; done) | (simp; omega)
          generalize (c :: RL').length = LL at hl0 hl1 ⊢
          have hbD := HBQ
          cases hcr : c == (r : Int) + 1
          · have hcr' : (c != (r : Int) + 1) = true := by simp [bne, hcr]
            have HM : Hid (B = true) := HN2.out.trans (by simp only [headNe, hcr']; rfl)
            go_wp2_with fail
            go_quiet (fail)
            go_wp2_with fail
            go_ret
            exact ⟨by rw [HM.out]; rfl, by have h := below_more hbw2 hb; exact ⟨h.os, h.tape, h.output, h.size, h.block⟩⟩
          · have hcr' : (c != (r : Int) + 1) = false := by simp [bne, hcr]
            have HM : Hid (B = ((R.zip x.from').drop (k + 1)).any (torn1 x)) := HN2.out.trans (by simp only [headNe, hcr']; rfl)
            go_wp2_with fail
            go_quiet (fail)
            go_wp2_with fail
            go_roundw
            case measure => simp [intOf]; omega
            case rel => exact ⟨k + 1, by omega, by go_num, HM.out, ⟨hb.os, hb.tape, hb.output, hb.size, hb.block⟩⟩
    · have HM : Hid (B = false) := hn.out.trans (by rw [drop_nil (l := R.zip x.from') (k := k) (by have := List.length_zip (l₁ := R) (l₂ := x.from'); omega)]; rfl)
      have hkI : (R.length : Int) ≤ (k : Int) := by omega
      clear hn
      go_wp2_with fail
      go_ret
      exact ⟨by rw [HM.out]; rfl, below_more hbw2 hb⟩

end Go.Proofs.YtomijmikkbhgmaaGreat

namespace Go.Proofs.YtomijmikkbhgmaaGreat
open Go.RowKit

/-- P8: does the thread of both keep one ahead of the other? -/
def keepP (T : List (List Ins)) (E : List Evt) (i j : Nat) (a b : Evt) : Bool := a.thread == b.thread && keepB E i j (T.getD a.thread.toNat []) a b

theorem EvIn.same {T : List (List Ins)} {a b : Evt} {i p i' p' : Nat} {l l' : List Ins} (ha : EvIn T a i p l) (hb : EvIn T b i' p' l') (h : a.thread = b.thread) : i' = i ∧ l' = l := by
  have h1 := ha.th
  have h2 := hb.th
  have e : i' = i := by omega
  subst e
  have := ha.l0.symm.trans hb.l0
  exact ⟨rfl, (Option.some.inj this).symm⟩
theorem EvIn.getD {T : List (List Ins)} {a : Evt} {i p : Nat} {l : List Ins} (ha : EvIn T a i p l) : T.getD a.thread.toNat [] = l := by
  rw [ha.th, Int.toNat_natCast, List.getD, ha.l0]; rfl

set_option maxRecDepth 20000 in
set_option maxHeartbeats 4000000 in
theorem kept_any (T : List (List Ins)) (hS : Short T) (fa : Bool) (c : List Atm) (vt vc : Value) (E : List Evt) (hE : E.length ≤ 96) (hin : EvsIn T E) (hloc : ∀ y ∈ E, locB y.loc = true) (x : Exe) (hX : XOk E x) (v vf vo : Value) (w : World) (ht : TestAt w (.agg #[vt, .bool fa, vc]) T fa c vt vc) (hev : Ev9At w v E) (hx : ExeC w vf vo x) :
    Calls Tryz.prog 113 #[.agg #[vt, .bool fa, vc], v, .agg #[vf, vo]] w fun e w' => ∃ u, e = .returned u ∧ ArwOwn w.heap.size w' u (arwL E x ++ allD (pairB E (keepP T E)) E.length E.length) ∧ Below w.heap.size w w' := by
  have hAL := arwL_len hE hX
  have HAR : Hid (∀ w', Below w.heap.size w w' → Calls Tryz.prog 144 #[v, .agg #[vf, vo]] w' fun e w'' => ∃ u, e = .returned u ∧ ArwOwn w'.heap.size w'' u (arwL E x) ∧ Below w'.heap.size w' w'') := fun w' hb => arrows_any E hE hloc x hX.f hX.o3 hX.l96 v vf vo w' (hev.keep hb) (hx.keep hb)
  have HKP : Hid (∀ w', Below w.heap.size w w' → ∀ (i j : Nat) (a b : Evt), E[i]? = some a → E[j]? = some b → a.thread = b.thread → Calls Tryz.prog 147 #[.agg #[vt, .bool fa, vc], v, .int .i64 i, .int .i64 j] w' fun e w'' => e = .returned (.bool (keepB E i j (T.getD a.thread.toNat []) a b)) ∧ Below w'.heap.size w' w'') := fun w' hb i j a b hi hj hab => by
    obtain ⟨ia, pa, la, ha⟩ := hin a (List.mem_of_getElem? hi)
    obtain ⟨ib, pb, lb, hb2⟩ := hin b (List.mem_of_getElem? hj)
    obtain ⟨rfl, rfl⟩ := ha.same hb2 hab
    rw [ha.getD]
    have h1 : pa < lb.length := (List.getElem?_eq_some_iff.1 ha.l1).1
    have h2 : pb < lb.length := (List.getElem?_eq_some_iff.1 hb2.l1).1
    exact keeps_any T fa c _ vt vc E hE i j a b hi hj ib pa pb lb ha.th ha.pl hb2.pl ha.l0 (by omega) (by omega) (hS.l12 _ (List.mem_of_getElem? ha.l0)) v w' (ht.keep hb) (hev.keep hb)
  obtain ⟨aof, capf, hvf⟩ := hx.f.form
  obtain ⟨aoo, bo, offo, capo, hso⟩ := hx.o
  have hvo := hso.hv
  obtain ⟨ao, b, off, cap, hv, ha, _, hc⟩ := hev
  subst hv hvf hvo
  have HC : Hid (∀ k y, E[k]? = some y → Ev9C w b (off + k * 9) y) := hc
  obtain ⟨i0, hi, hz0, hz1, hz2⟩ := info_parts Tryz.infoArw
  have HI : Hid (Tryz.prog.info? 178 = some i0 ∧ i0.zero = some (.agg #[.int .i64 0, .int .i64 0]) ∧ i0.size = 2 ∧ i0.bytes = 16) := ⟨hi, hz0, hz1, hz2⟩
  have hsq : E.length * E.length ≤ 9216 := Nat.mul_le_mul hE hE
  have HQ : Hid (∀ (i j : Nat) (a b : Evt), E[i]? = some a → E[j]? = some b → pairB E (keepP T E) i j = (a.thread == b.thread && keepB E i j (T.getD a.thread.toNat []) a b)) := fun i j a b hi hj => pairB_get hi hj (keepP T E)
  generalize hPP : pairB E (keepP T E) = PP at HQ ⊢
  generalize hn : E.length = n at *
  generalize arwL E x = A0 at *
  have HE : Hid (E.length = n) := hn
  clear hi hz0 hz1 hz2 hc hso hn hX hx hloc hS hin ht hPP
  go_enter Tryz.func113, Tryz.ntmps113
  go_wp2_with fail
  refine (HAR.out _ (below_two _ _ _)).mono ?_
  rintro e w2 ⟨u2, rfl, hu2, hb2⟩
  have hbw2 : Below w.heap.size w w2 := below_more (below_two _ _ _) hb2
  have e0 := keep_cell hb2 (b := w.heap.size) (off := 0) (u := vt) (by simp)
  have e1 := keep_cell hb2 (b := w.heap.size) (off := 1) (u := .bool fa) (by simp)
  have e2 := keep_cell hb2 (b := w.heap.size) (off := 2) (u := vc) (by simp)
  have HT0 : Hid (w2.cell? ⟨w.heap.size, 0, none⟩ = some vt ∧ w2.cell? ⟨w.heap.size, 1, none⟩ = some (.bool fa) ∧ w2.cell? ⟨w.heap.size, 2, none⟩ = some vc) := ⟨e0, e1, e2⟩
  have hs2 : w.heap.size + 2 ≤ w2.heap.size := by have := hb2.size; simpa using this
  have HO' : Hid (ArwOwn (w.heap.size + 2) w2 u2 (A0 ++ allD PP n 0)) := by
    show ArwOwn (w.heap.size + 2) w2 u2 (A0 ++ [])
    rw [List.append_nil]; exact own_base hu2 (by simp)
  clear hu2 hb2 HAR e0 e1 e2
  go_wp2_with fail
  go_loopw [7, 8] (fun u i wr => ∃ k : Nat, k ≤ n ∧ i = .int .i64 k ∧ Hid (ArwOwn (w.heap.size + 2) wr u (A0 ++ allD PP n k)) ∧ Below (w.heap.size + 2) w2 wr) (fun _ i _ => n - (intOf i).toNat)
  case atStart => exact ⟨0, Nat.zero_le _, rfl, HO'.out, Below.refl _ _⟩
  case round =>
    clear HO'
    obtain ⟨k, hk, rfl, hown, hb⟩ := hrel
    by_cases hlt : k < n
    · obtain ⟨y, hy⟩ := get_of_lt (l := E) (k := k) (by have := HE.out; omega)
      have HY : Hid (E[k]? = some y) := hy
      obtain rfl := ha (by intro h; rw [h] at hy; simp at hy)
      have hkI : (k : Int) < (n : Int) := by omega
      have hlk := allD_len PP n k
      have hlk2 : k * n ≤ n * n := Nat.mul_le_mul_right n hk
      have HO : Hid (ArwOwn (w.heap.size + 2) wr u7 (A0 ++ (allD PP n k ++ dnT PP k (k + 1)))) := by rw [dnT_start, List.append_nil]; exact hown.out
      clear hown hy
      go_wp2_with fail
      go_loopw [7, 9] (fun u i wr => ∃ t : Nat, k + 1 ≤ t ∧ t ≤ n ∧ i = .int .i64 t ∧ Hid (ArwOwn (w.heap.size + 2) wr u (A0 ++ (allD PP n k ++ dnT PP k t))) ∧ Below (w.heap.size + 2) w2 wr) (fun _ i _ => n - (intOf i).toNat)
      case atStart => exact ⟨k + 1, Nat.le_refl _, by omega, by go_num, HO.out, hb⟩
      case round =>
        clear HO hb
        obtain ⟨t, ht1, ht2, rfl, hown, hb⟩ := hrel
        have HO := hown
        have hsz := hb.size
        by_cases htn : t < n
        · obtain ⟨z, hz⟩ := get_of_lt (l := E) (k := t) (by have := HE.out; omega)
          have HP : Hid (PP k t = (y.thread == z.thread && keepB E k t (T.getD y.thread.toNat []) y z)) := HQ.out k t y z HY.out hz
          have HZ : Hid (E[t]? = some z) := hz
          have hbw : Below w.heap.size w wr := hbw2.trans (hb.mono (by omega))
          obtain ⟨c0, _⟩ := ev9C_keeps _ _ _ _ _ hbw (HC.out k y HY.out)
          obtain ⟨d0, _⟩ := ev9C_keeps _ _ _ _ _ hbw (HC.out t z hz)
          have htI : (t : Int) < (n : Int) := by omega
          have hdl := dnT_len PP k t
          have hA1 : (A0 ++ (allD PP n k ++ dnT PP k t)).length ≤ 60000 := by rw [List.length_append, List.length_append]; omega
          have HNO : Hid (PP k t = false → A0 ++ (allD PP n k ++ dnT PP k t) = A0 ++ (allD PP n k ++ dnT PP k (t + 1))) := fun h => by rw [dnT_no h]
          have HYES : Hid (PP k t = true → A0 ++ (allD PP n k ++ dnT PP k (t + 1)) = (A0 ++ (allD PP n k ++ dnT PP k t)) ++ [((k : Int), (t : Int))]) := fun h => by rw [dnT_yes (by omega) h]; simp
          generalize A0 ++ (allD PP n k ++ dnT PP k t) = A1 at HO hA1 HNO HYES
          generalize hA2 : A0 ++ (allD PP n k ++ dnT PP k (t + 1)) = A2 at HNO HYES
          have HA2 : Hid (A0 ++ (allD PP n k ++ dnT PP k (t + 1)) = A2) := hA2
          clear hA2
          clear hown hz
          have t0 := hb.cell (p := ⟨w.heap.size, 0, none⟩) (by simp)
          have t1 := hb.cell (p := ⟨w.heap.size, 1, none⟩) (by simp)
          have t2 := hb.cell (p := ⟨w.heap.size, 2, none⟩) (by simp)
          rw [HT0.out.1] at t0
          rw [HT0.out.2.1] at t1
          rw [HT0.out.2.2] at t2
          cases h1 : y.thread == z.thread
          · have HM : Hid (A1 = A2) := HNO.out (HP.out.trans (by rw [h1]; rfl))
            go_wp2_with fail
            go_quiet (fail)
            go_wp2_with fail
            go_roundw
            case measure => simp [intOf]; omega
            case rel => exact ⟨t + 1, by omega, by omega, by go_num, by rw [HA2.out, ← HM.out]; exact HO.out, ⟨hb.os, hb.tape, hb.output, hb.size, hb.block⟩⟩
          · have HCL : Hid (∀ nq, Calls Tryz.prog 147 #[.agg #[vt, .bool fa, vc], .slice (some ⟨b, off, none⟩) n cap, .int .i64 k, .int .i64 t] (wr.drewN nq) fun e w'' => e = .returned (.bool (keepB E k t (T.getD y.thread.toNat []) y z)) ∧ Below wr.heap.size (wr.drewN nq) w'') := fun nq => HKP.out (wr.drewN nq) ⟨hbw.os, hbw.tape, hbw.output, hbw.size, hbw.block⟩ k t y z HY.out HZ.out (by simpa using h1)
            have HP2 : Hid (PP k t = keepB E k t (T.getD y.thread.toNat []) y z) := HP.out.trans (by rw [h1]; rfl)
            generalize keepB E k t (T.getD y.thread.toNat []) y z = KB at HCL HP2
            have HOD : Hid (∀ nq, ArwOwn (w.heap.size + 2) (wr.drewN nq) u7 A1) := fun nq => HO.out
            have HBD : Hid (∀ nq, Below (w.heap.size + 2) w2 (wr.drewN nq)) := fun nq => ⟨hb.os, hb.tape, hb.output, hb.size, hb.block⟩
            go_wp2_with fail
            go_quiet (fail)
            go_wp2_with fail
            refine (HCL.out _).mono ?_
            rintro e w4 ⟨rfl, hb4⟩
            have hb5 : Below (w.heap.size + 2) w2 w4 := (HBD.out _).trans (hb4.mono (by omega))
            have HO5 : Hid (ArwOwn (w.heap.size + 2) w4 u7 A1) := own_keep (HOD.out _) hb4
            have hs5 := hb5.size
            clear HOD HBD hb4
            cases KB
            · have HM : Hid (A1 = A2) := HNO.out HP2.out
              go_wp2_with fail
              go_roundw
              case measure => simp [intOf]; omega
              case rel => exact ⟨t + 1, by omega, by omega, by go_num, by rw [HA2.out, ← HM.out]; exact HO5.out, hb5⟩
            · have HM : Hid (A2 = A1 ++ [((k : Int), (t : Int))]) := HYES.out HP2.out
              go_wp2_with (at_builtin; refine append_new _ rfl _ _ 151 rfl (w.heap.size + 2) 178 i0 (.agg #[.int .i64 0, .int .i64 0]) 2 16 Tryz.underlying151 HI.out.1 HI.out.2.1 HI.out.2.2.1 HI.out.2.2.2 rfl (by decide) u7 A1.length (A1.flatMap arwV) rfl (HO5.out.alloc _) (some ⟨w4.heap.size, 0, none⟩) 1 1 (arwV ((k : Int), (t : Int))) rfl (fun h => by cases h) rfl (fun ad had => by cases had; exact new_many rfl) (by simp [arwV, Value.oneCell']) (by unfold maxLen; omega) (by omega) (by simp; omega) ?_)
              intro u' w6 hown' hgrow _
              have hb6 : Below (w.heap.size + 2) w2 w6 := Below.grown (hb5.alloc (by omega) _) hgrow (by simp; omega) (fun kk e => (HO5.out.lt kk e).1)
              have HO6 : Hid (ArwOwn (w.heap.size + 2) w6 u' A2) := by rw [HM.out]; exact arw_snoc hown'
              clear hgrow hown'
              go_wp2_with fail
              go_roundw
              case measure => simp [intOf]; omega
              case rel => exact ⟨t + 1, by omega, by omega, by go_num, by rw [HA2.out]; exact HO6.out, hb6⟩
        · have htn2 : t = n := by omega
          subst htn2
          clear hown
          go_wp2_with fail
          go_roundw
          case measure => simp [intOf]; omega
          case rel => exact ⟨k + 1, by omega, by go_num, by rw [allD_step]; exact HO.out, hb⟩
    · have hkn : k = n := by omega
      subst hkn
      have HO := hown
      clear hown
      go_wp2_with fail
      go_ret
      exact ⟨_, rfl, own_base HO.out (by omega), hbw2.trans (hb.mono (by omega))⟩

end Go.Proofs.YtomijmikkbhgmaaGreat

namespace Go.Proofs.YtomijmikkbhgmaaGreat
open Go.RowKit

set_option maxHeartbeats 2000000 in
theorem count_any (T : List (List Ins)) (fa : Bool) (c : List Atm) (v vt vc : Value) (w : World) (h : TestAt w v T fa c vt vc) (h2 : T.length ≤ 4) (hL : lensB T = true) (op : Int) :
    Calls Tryz.prog 92 #[v, .int .i64 op] w fun e w' => e = .returned (.int .i64 (cntO op T : Nat)) ∧ Below w.heap.size w w' := by
  obtain ⟨hv, ht, ⟨hc0, ao', b', off', cap', hcv, _, _, _⟩⟩ := h
  obtain ⟨ht0, ao, b, off, cap, htv, hta, _, htc⟩ := ht.opened
  subst hv htv hcv
  generalize hN : cntO op T = N
  have HN0 : Hid (cntO op T = N) := hN
  clear hN
  go_enter Tryz.func92, Tryz.ntmps92
  go_wp2_with fail
  have hbox := boxed w (.slice ao T.length cap) (.slice ao' c.length cap') fa 25
  generalize w.alloc (.cells #[.slice ao T.length cap, .bool fa, .slice ao' c.length cap'] 25) = W at hbox ⊢
  obtain ⟨hbW, _, g0, _, _⟩ := hbox
  go_loop [5, 6] (fun u i => ∃ (k n : Nat), k ≤ T.length ∧ i = .int .i64 k ∧ u = .int .i64 n ∧ n ≤ 12 * k ∧ Hid (N = n + cntO op (T.drop k))) (fun _ i => T.length - (intOf i).toNat)
  case atStart => exact ⟨0, 0, Nat.zero_le _, rfl, rfl, Nat.le_refl _, by rw [List.drop_zero, HN0.out]; exact (Nat.zero_add _).symm⟩
  case round =>
    obtain ⟨k, n, hk, rfl, rfl, hnk, hn⟩ := hrel
    by_cases hlt : k < T.length
    · obtain ⟨l, hx⟩ := get_of_lt hlt
      obtain ⟨hbl, ao2, cap2, c0, hil⟩ := htc k l hx
      obtain rfl := hta (ne_nil hlt)
      have hl12 := lensB_get hL hx
      have HN : Hid (N = n + ((l.filter fun x => x.op == op).length + cntO op (T.drop (k + 1)))) := hn.out.trans (by rw [drop_cons hx]; rfl)
      have c1 := keep_cell hbW c0
      have HIL : Hid (InsAt W (.slice ao2 l.length cap2) l) := hil.keep hbW
      have hbl2 := World.block_lt_of_cell? _ _ c1
      clear hx hn hil ht c0 hL htc hta HN0
      generalize hR : cntO op (T.drop (k + 1)) = R at HN
      have HR : Hid (cntO op (T.drop (k + 1)) = R) := hR
      clear hR
      go_wp2_with fail
      go_loop [5, 7] (fun u i => ∃ (j n : Nat), j ≤ l.length ∧ i = .int .i64 j ∧ u = .int .i64 n ∧ n ≤ 12 * k + j ∧ Hid (N = n + (((l.drop j).filter fun x => x.op == op).length + R))) (fun _ i => l.length - (intOf i).toNat)
      case atStart => exact ⟨0, n, Nat.zero_le _, rfl, rfl, by omega, HN.out⟩
      case round =>
        clear HN hnk
        obtain ⟨j, n2, hj, rfl, rfl, hnj, hn⟩ := hrel
        by_cases hlt2 : j < l.length
        · obtain ⟨x, hx⟩ := get_of_lt hlt2
          obtain ⟨_, ao3, b3, off3, cap3, hv3, ha3, _, hc3⟩ := HIL.out
          have hC := hc3 j x hx
          have hbl3 := hC.lt
          have d0 := hC.c0
          rw [drop_cons hx] at hn
          have HN2 : Hid (N = n2 + (((x :: l.drop (j + 1)).filter fun x => x.op == op).length + R)) := hn
          simp only [Value.slice.injEq] at hv3
          obtain ⟨e1, _, e3⟩ := hv3
          rw [ha3 (ne_nil hlt2)] at e1
          subst e1
          clear hn hc3 hC ha3 e3 hx
          cases hop : x.op == op
          · have HM : Hid (N = n2 + (((l.drop (j + 1)).filter fun x => x.op == op).length + R)) := HN2.out.trans (by rw [List.filter_cons, hop]; rfl)
            go_wp2_with fail
            go_round
            case measure => simp [intOf]; omega
            case rel => exact ⟨j + 1, n2, by omega, by go_num, rfl, by omega, HM.out⟩
          · have HM : Hid (N = (n2 + 1) + (((l.drop (j + 1)).filter fun x => x.op == op).length + R)) := HN2.out.trans (by rw [List.filter_cons, hop]; simp; omega)
            go_wp2_with fail
            go_round
            case measure => simp [intOf]; omega
            case rel => exact ⟨j + 1, n2 + 1, by omega, by go_num, by go_num, by omega, HM.out⟩
        · have HM : Hid (N = n2 + cntO op (T.drop (k + 1))) := hn.out.trans (by rw [drop_nil hlt2, HR.out]; simp)
          clear hn
          go_wp2_with fail
          go_round
          case measure => simp [intOf]; omega
          case rel => exact ⟨k + 1, n2, by omega, by go_num, rfl, by omega, HM.out⟩
    · have HM : Hid (N = n) := hn.out.trans (by rw [drop_nil hlt]; rfl)
      clear hn htc hta ht
      go_wp2_with fail
      go_ret
      exact ⟨by rw [HM.out]; rfl, hbW⟩

end Go.Proofs.YtomijmikkbhgmaaGreat

namespace Go.Proofs.YtomijmikkbhgmaaGreat
open Go.RowKit

theorem ret_cap {S n : Nat} (h : cap2 S = n) : Ending.returned (.int .i64 (n : Nat)) = .returned (.int .i64 (cap2 S : Nat)) := by rw [h]

set_option maxHeartbeats 2000000 in
theorem size_any (E : List Evt) (hE : E.length ≤ 96) (v : Value) (w : World) (h : Ev9At w v E) :
    Calls Tryz.prog 93 #[v] w fun e w' => e = .returned (.int .i64 (cap2 (sizeN E) : Nat)) ∧ Below w.heap.size w w' := by
  have HE : Hid (Ev9At w v E) := h
  obtain ⟨ao, b, off, cap, hv, ha, _, hc⟩ := h
  subst hv
  generalize hS : sizeN E = S
  have HS : Hid (sizeN E = S) := hS
  clear hS
  go_enter Tryz.func93, Tryz.ntmps93
  go_wp2_with fail
  go_loopw [3, 4] (fun u i wr => ∃ (k n : Nat), k ≤ E.length ∧ i = .int .i64 k ∧ u = .int .i64 n ∧ n ≤ 2000 ∧ Hid (S = n * (prodR E (E.drop k) * facL E 0)) ∧ Below w.heap.size w wr) (fun _ i _ => E.length - (intOf i).toNat)
  case atStart => exact ⟨0, 1, Nat.zero_le _, rfl, rfl, by omega, by rw [Nat.one_mul, List.drop_zero, ← sizeN_eq, HS.out]; exact rfl, Below.refl _ _⟩
  case round =>
    obtain ⟨k, n, hk, rfl, rfl, hn0, hn, hb⟩ := hrel
    by_cases hlt : k < E.length
    · obtain ⟨x, hx⟩ := get_of_lt hlt
      have hC := hc k x hx
      have hbl := hC.lt
      obtain rfl := ha (ne_nil hlt)
      obtain ⟨_, _, c2, c3, _, _, _, _, _⟩ := ev9C_keeps _ _ _ _ _ hb hC
      have HN : Hid (S = n * (prodR E (x :: E.drop (k + 1)) * facL E 0)) := by rw [← drop_cons hx]; exact hn
      clear hn hC ha hx
      have HC : Hid (∀ k x, E[k]? = some x → Ev9C w b (off + k * 9) x) := hc
      clear hc
      cases h1 : x.kind == 0
      · have HM : Hid (S = n * (prodR E (E.drop (k + 1)) * facL E 0)) := HN.out.trans (by rw [prodR_not h1])
        go_wp2_with fail
        go_roundw
        case measure => simp [intOf]; omega
        case rel => exact ⟨k + 1, n, by omega, by go_num, rfl, hn0, HM.out, hb⟩
      · have hwl := wrs_len E 0 x.loc
        have HM0 : Hid (S = n * ((1 + (wrs E 0 x.loc).length) * (prodR E (E.drop (k + 1)) * facL E 0))) := HN.out.trans (by rw [prodR_read h1, Nat.mul_assoc])
        generalize hW : wrs E 0 x.loc = W at hwl HM0
        have HW : Hid (wrs E 0 x.loc = W) := hW
        clear hW
        have hml := @mul_bd1 n W.length 2000 96 hn0 (by omega)
        obtain ⟨hm1, hm2⟩ := hml
        have HP : Hid (1 ≤ prodR E (E.drop (k + 1)) * facL E 0) := Nat.mul_le_mul (prodR_pos _ _) (facL_pos _ _)
        by_cases hbig : 2000 < (n : Int) * (1 + (W.length : Int))
        · have HR : Hid (cap2 S = 2001) := by
            rw [HM0.out, ← Nat.mul_assoc]
            refine cap2_big ?_ HP.out
            have e : ((n * (1 + W.length) : Nat) : Int) = (n : Int) * (1 + (W.length : Int)) := by simp
            omega
          go_wp2_with (go_at_call 109; refine (writesR_any E hE x.loc _ _ (HE.out.keep hb)).mono ?_; rw [HW.out]; rintro e w3 ⟨u2, rfl, hu2, hb3⟩; obtain ⟨ao4, b4, off4, cap4, ⟨hv4, ha4, _, hc4⟩, hb4⟩ := hu2; subst hv4)
          go_ret
          exact ⟨ret_cap HR.out, below_more hb hb3⟩
        · have HM : Hid (S = (n * (1 + W.length)) * (prodR E (E.drop (k + 1)) * facL E 0)) := HM0.out.trans (by rw [Nat.mul_assoc])
          go_wp2_with (go_at_call 109; refine (writesR_any E hE x.loc _ _ (HE.out.keep hb)).mono ?_; rw [HW.out]; rintro e w3 ⟨u2, rfl, hu2, hb3⟩; obtain ⟨ao4, b4, off4, cap4, ⟨hv4, ha4, _, hc4⟩, hb4⟩ := hu2; subst hv4)
          go_roundw
          case measure => simp [intOf]; omega
          case rel => exact ⟨k + 1, n * (1 + W.length), by omega, by go_num, by simp, by
              have e : ((n * (1 + W.length) : Nat) : Int) = (n : Int) * (1 + (W.length : Int)) := by simp
              omega, HM.out, below_more hb hb3⟩
    · have HM : Hid (S = n * facL E 0) := hn.out.trans (by rw [drop_nil hlt]; simp [prodR])
      clear hn hc ha
      go_wp2_with fail
      go_loopw [3, 6] (fun u i wr => ∃ (j n : Nat), j ≤ 3 ∧ i = .int .i64 j ∧ u = .int .i64 n ∧ n ≤ 2000 ∧ Hid (S = n * facL E j) ∧ Below w.heap.size w wr) (fun _ i _ => 3 - (intOf i).toNat)
      case atStart => exact ⟨0, n, by omega, rfl, rfl, hn0, HM.out, hb⟩
      case round =>
        clear HM hb hn0
        obtain ⟨j, n2, hj, rfl, rfl, hn0, hn, hb⟩ := hrel
        by_cases hlt2 : j < 3
        · have HM : Hid (S = n2 * (fac (wrs E 0 (j : Int)).length * facL E (j + 1))) := hn.out.trans (by rw [facL_step E j hlt2])
          have hwl := wrs_len E 0 (j : Int)
          generalize hW : wrs E 0 (j : Int) = W at hwl HM
          have HW : Hid (wrs E 0 (j : Int) = W) := hW
          clear hW hn
          go_wp2_with (go_at_call 109; refine (writesR_any E hE j _ _ (HE.out.keep hb)).mono ?_; rw [HW.out]; rintro e w3 ⟨u2, rfl, hu2, hb3⟩; obtain ⟨ao4, b4, off4, cap4, ⟨hv4, ha4, _, hc4⟩, hb4⟩ := hu2; subst hv4)
          have hb5 := below_more hb hb3
          clear hb3 hc4 ha4
          go_loop [3, 8] (fun u i => ∃ (k n : Nat), 2 ≤ k ∧ k ≤ 98 ∧ i = .int .i64 k ∧ u = .int .i64 n ∧ n ≤ 2000 ∧ Hid (S = n * (prodUp k (W.length + 1 - k) * facL E (j + 1)))) (fun _ i => 98 - (intOf i).toNat)
          case atStart => exact ⟨2, n2, by omega, by omega, rfl, rfl, hn0, HM.out.trans (by rw [prodUp_two])⟩
          case round =>
            clear HM hn0
            obtain ⟨k2, n3, hk2, hk98, rfl, rfl, hn0, hn⟩ := hrel
            by_cases hlt3 : k2 ≤ W.length
            · have HM0 : Hid (S = (n3 * k2) * (prodUp (k2 + 1) (W.length + 1 - (k2 + 1)) * facL E (j + 1))) := hn.out.trans (by rw [prodUp_step hlt3, Nat.mul_assoc, Nat.mul_assoc])
              obtain ⟨hm1, hm2⟩ := @mul_bd n3 k2 2000 98 hn0 (by omega)
              have HP : Hid (1 ≤ prodUp (k2 + 1) (W.length + 1 - (k2 + 1)) * facL E (j + 1)) := Nat.mul_le_mul (prodUp_pos _ _ (by omega)) (facL_pos _ _)
              have ec : ((n3 * k2 : Nat) : Int) = (n3 : Int) * (k2 : Int) := by simp
              have EC : Hid (((n3 * k2 : Nat) : Int) = (n3 : Int) * (k2 : Int)) := ec
              clear hn ec
              by_cases hbig : 2000 < (n3 : Int) * (k2 : Int)
              · have HR : Hid (cap2 S = 2001) := by
                  rw [HM0.out]
                  refine cap2_big ?_ HP.out
                  have e := EC.out
                  omega
                go_wp2_with fail
                go_ret
                exact ⟨ret_cap HR.out, hb5⟩
              · go_wp2_with fail
                go_round
                case measure => simp [intOf]; omega
                case rel => exact ⟨k2 + 1, n3 * k2, by omega, by omega, by go_num, by simp, by have e := EC.out; omega, HM0.out⟩
            · have HM1 : Hid (S = n3 * facL E (j + 1)) := hn.out.trans (by rw [prodUp_done hlt3, Nat.one_mul])
              clear hn
              go_wp2_with fail
              go_roundw
              case measure => simp [intOf]; omega
              case rel => exact ⟨j + 1, n3, by omega, by go_num, rfl, hn0, HM1.out, hb5⟩
        · have e3 : j = 3 := by omega
          subst e3
          have HR : Hid (cap2 S = n2) := by rw [hn.out, facL_three, Nat.mul_one]; exact cap2_of_le (by omega)
          clear hn
          go_wp2_with fail
          go_ret
          exact ⟨ret_cap HR.out, hb⟩

end Go.Proofs.YtomijmikkbhgmaaGreat
