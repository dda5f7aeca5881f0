import Derived.Test.YtomijmikkbhgmabT21
import Derived.Laws.CopyOwn
import Derived.Deep.RegionLaw
import Derived.Test.YtomijmikkbhgmabT19
import Derived.Deep.QuietTactic
import Derived.BigQuiet
import Derived.Test.YtomijmikkbhgmabLu
import Derived.Test.YtomijmikkbhgmabT4
import Derived.Test.YtomijmikkbhgmabT8
import Derived.Test.YtomijmikkbhgmabT11
import Derived.Test.YtomijmikkbhgmabT13
import Derived.Test.YtomijmikkbhgmabT1
import Derived.Test.YtomijmikkbhgmabT5
import Derived.Deep.RegionWith
namespace Go.Proofs.Ytomijmikkbhgmab
open Go.RowKit

theorem Try.sizeBool : (Try.prog.info? 4).map (·.size) = some 1 := by kernel_rfl

theorem mat_row {w : World} {bl n : Nat} {A : List (Int × Int)} {t : TypeId} (ht : t = 4) (h : w.heap[bl]? = some (.cells ((List.range (n * n)).map fun q => Value.bool (arwB A (q / n) (q % n))).toArray t (0, 0))) : MatAt w bl n A := by
  subst ht
  exact ⟨_, h, by simp, fun i hi => by simp [hi]⟩

set_option maxRecDepth 20000 in
set_option maxHeartbeats 1000000 in
theorem with_any (n : Nat) (hn : n ≤ 96) (_h0 : 0 < n) (A : List (Int × Int)) (p bl : Nat) (x y : Int) (w : World) (h : SetAt w p bl n A) :
    Calls Try.prog 117 #[.pointer (some ⟨p, 0, none⟩), .int .i64 x, .int .i64 y] w fun e w' => ∃ bl', e = .returned (.agg #[.int .i64 n, .slice (some ⟨bl', 0, none⟩) (n * n) (n * n)]) ∧ w.heap.size ≤ bl' ∧ MatAt w' bl' n (A ++ [(x, y)]) ∧ Below w.heap.size w w' := by
  have HS : Hid (SetAt w p bl n A) := h
  obtain ⟨c0, c1, _, _⟩ := h
  have m0 := World.block_lt_of_cell? _ _ c0
  simp only at m0
  go_enter Try.func117, Try.ntmps117
  go_wp2_with fail
  refine (new_any n hn _).mono ?_
  rintro e w2 ⟨rfl, hm2, hb2⟩
  rw [World.size_alloc] at hm2 hb2 ⊢
  have hs2 : w.heap.size + 1 + 1 < w2.heap.size := hm2.lt
  have hbw2 : Below w.heap.size w w2 := (below_alloc _ _).trans (hb2.mono (by omega))
  have d0 : w2.cell? ⟨w.heap.size, 0, none⟩ = some (.int .i64 0) := (hb2.cell (p := ⟨w.heap.size, 0, none⟩) (by simp)).trans (by simp)
  have d1 : w2.cell? ⟨w.heap.size, 1, none⟩ = some (.slice none 0 0) := (hb2.cell (p := ⟨w.heap.size, 1, none⟩) (by simp)).trans (by simp)
  have z0 : w2.frozen? ⟨w.heap.size, 0, none⟩ = false := (hb2.frozen (p := ⟨w.heap.size, 0, none⟩) (by simp)).trans (by simp)
  have z1 : w2.frozen? ⟨w.heap.size, 1, none⟩ = false := (hb2.frozen (p := ⟨w.heap.size, 1, none⟩) (by simp)).trans (by simp)
  have HD : Hid (w2.cell? ⟨w.heap.size, 0, none⟩ = some (.int .i64 0) ∧ w2.cell? ⟨w.heap.size, 1, none⟩ = some (.slice none 0 0) ∧ w2.frozen? ⟨w.heap.size, 0, none⟩ = false ∧ w2.frozen? ⟨w.heap.size, 1, none⟩ = false) := ⟨d0, d1, z0, z1⟩
  clear hb2 c0 c1 d0 d1 z0 z1
  obtain ⟨bl', hbl⟩ : ∃ bl', w.heap.size + 1 + 1 = bl' := ⟨_, rfl⟩
  rw [hbl] at hm2 hs2 ⊢
  have hblw : w.heap.size < bl' := by omega
  clear hbl
  have hba := below_alloc w2 (.cells #[.int .i64 n, .slice (some ⟨bl', 0, none⟩) (n * n) (n * n)] 133)
  obtain ⟨cur, hcur, hcsz, _⟩ := hm2
  have HCUR : Hid ((w2.alloc (.cells #[.int .i64 n, .slice (some ⟨bl', 0, none⟩) (n * n) (n * n)] 133)).heap[bl']? = some (.cells cur 4 (0, 0))) := (hba.block bl' hs2).trans hcur
  obtain ⟨c0, c1, hmat, hne⟩ := (HS.out.keep hbw2).keep hba
  have HMAT : Hid (MatAt (w2.alloc (.cells #[.int .i64 n, .slice (some ⟨bl', 0, none⟩) (n * n) (n * n)] 133)) bl n A) := hmat
  have f0 : (w2.alloc (.cells #[.int .i64 n, .slice (some ⟨bl', 0, none⟩) (n * n) (n * n)] 133)).cell? ⟨w2.heap.size, 0, none⟩ = some (.int .i64 n) := by simp
  have f1 : (w2.alloc (.cells #[.int .i64 n, .slice (some ⟨bl', 0, none⟩) (n * n) (n * n)] 133)).cell? ⟨w2.heap.size, 1, none⟩ = some (.slice (some ⟨bl', 0, none⟩) (n * n) (n * n)) := by simp
  have hbW : Below w.heap.size w (w2.alloc (.cells #[.int .i64 n, .slice (some ⟨bl', 0, none⟩) (n * n) (n * n)] 133)) := below_more hbw2 hba
  have HDW : Hid ((w2.alloc (.cells #[.int .i64 n, .slice (some ⟨bl', 0, none⟩) (n * n) (n * n)] 133)).heap[w.heap.size]? = w2.heap[w.heap.size]?) := hba.block _ (by omega)
  have hsW : w2.heap.size < (w2.alloc (.cells #[.int .i64 n, .slice (some ⟨bl', 0, none⟩) (n * n) (n * n)] 133)).heap.size := by simp
  clear hcur hmat hba hbw2
  go_wp2_with fail
  generalize w2.alloc (.cells #[.int .i64 n, .slice (some ⟨bl', 0, none⟩) (n * n) (n * n)] 133) = W at *
  generalize w2.heap.size = p2 at *
  have HF : Hid (W.cell? ⟨p2, 0, none⟩ = some (.int .i64 n) ∧ W.cell? ⟨p2, 1, none⟩ = some (.slice (some ⟨bl', 0, none⟩) (n * n) (n * n))) := ⟨f0, f1⟩
  refine wp_region_still_tail 6 (by kernel_rfl) (by kernel_rfl) ?_
  simp only [List.take_succ_cons, List.take_zero, List.drop_succ_cons, List.drop_zero]
  repeat still_step
  refine wpStill_nil ?_
  obtain ⟨cs, hcs⟩ : ∃ cs, ((List.range (n * n)).map fun q => Value.bool (arwB A (q / n) (q % n))) = cs := ⟨_, rfl⟩
  have hcl : cs.length = n * n := by rw [← hcs, List.length_map, List.length_range]
  have HN : Hid (cs.length = Nat.min (n * n) (n * n)) := by rw [hcl]; exact (Nat.min_self _).symm
  have HSRC : Hid (∀ (j : Nat) (v : Value), cs[j]? = some v → W.drew.cell? ((⟨bl, 0, none⟩ : Addr).add j) = some v) := fun j v hj => by
    rw [← hcs, List.getElem?_map] at hj
    obtain ⟨q, hq, rfl⟩ := Option.map_eq_some_iff.1 hj
    have hql : j < n * n := by have := (List.getElem?_eq_some_iff.1 hq).1; simpa using this
    have hqj : q = j := by rw [List.getElem?_eq_getElem (by simpa using hql)] at hq; simpa using hq.symm
    subst hqj
    rw [Addr.add_lit, Nat.zero_add]
    exact World.rowIs.cell HMAT.out hql
  have HFIT : Hid (0 + cs.length ≤ cur.size) := by show 0 + cs.length ≤ cur.size; omega
  have HONE : Hid (∀ v ∈ cs, v.oneCell' = true) := fun v hv => by rw [← hcs] at hv; obtain ⟨q, _, rfl⟩ := List.mem_map.1 hv; rfl
  have HMT : Hid (∀ w' : World, w'.heap[bl']? = some (.cells cs.toArray 4 (0, 0)) → MatAt w' bl' n A) := fun w' hw' => mat_row rfl (by rw [hcs]; exact hw')
  have HARR : Hid ((cur.toList.take 0 ++ (cs ++ cur.toList.drop (0 + cs.length))).toArray = cs.toArray) := by
    show _ = _
    rw [List.take_zero, List.nil_append, List.drop_eq_nil_of_le (by simp; omega), List.append_nil]
  clear hcs
  refine wpList_copy_own rfl (.tmp 14) (.tmp 18) 131 131 rfl 4 Try.underlying131 Try.sizeBool bl' 0 (n * n) (n * n) ⟨bl, 0, none⟩ (n * n) (n * n) rfl rfl cur 4 HCUR.out cs HN.out HSRC.out HFIT.out HONE.out ?_
  rw [HARR.out]
  have hoth : ∀ k, k ≠ bl' → (W.drew.setRow bl' cs.toArray).heap[k]? = W.heap[k]? := fun k hk => setRow_other W.drew bl' k _ hk
  have HST : Hid (SetAt (W.drew.setRow bl' cs.toArray) p2 bl' n A) := ⟨cell_heap (hoth p2 (by omega)) HF.out.1, cell_heap (hoth p2 (by omega)) HF.out.2, HMT.out _ (setRow_heap W.drew bl' cur _ _ _ HCUR.out), by omega⟩
  have HON : Hid (Only bl' W (W.drew.setRow bl' cs.toArray)) := ⟨rfl, rfl, rfl, by simp [World.setRow], fun k _ hk => hoth k hk⟩
  clear hoth HMT HARR HONE HFIT HSRC HN HMAT HCUR HF f0 f1 c0 c1
  go_wp2_with fail
  generalize W.drew.setRow bl' cs.toArray = W4 at HST HON ⊢
  refine (add_any n hn A p2 bl' x y W4 HST.out).mono ?_
  rintro e w5 ⟨r5, rfl, hset5, hon5⟩
  have hon : Only bl' W w5 := HON.out.trans hon5
  obtain ⟨s0, s1, hmat5, _⟩ := hset5
  have HMAT : Hid (MatAt w5 bl' n (A ++ [(x, y)])) := hmat5
  have hblk : w5.heap[w.heap.size]? = w2.heap[w.heap.size]? := (hon.block w.heap.size (by have := hbW.size; omega) (by omega)).trans HDW.out
  have d0 := (World.cell?_of_block (w := w2) (a := ⟨w.heap.size, 0, none⟩) hblk).trans HD.out.1
  have d1 := (World.cell?_of_block (w := w2) (a := ⟨w.heap.size, 1, none⟩) hblk).trans HD.out.2.1
  have z0 := (World.frozen?_of_block (w := w2) (a := ⟨w.heap.size, 0, none⟩) hblk).trans HD.out.2.2.1
  have z1 := (World.frozen?_of_block (w := w2) (a := ⟨w.heap.size, 1, none⟩) hblk).trans HD.out.2.2.2
  have hb5 : Below w.heap.size w w5 := hbW.trans (hon.below (by omega) hbW.size)
  clear hmat5 hblk HST HON hon5
  go_wp2_with fail
  refine bodyPost_ret (v := .agg #[.int .i64 n, .slice (some ⟨bl', 0, none⟩) (n * n) (n * n)]) (by simp [results, Try.results117, go_sem, *]) rfl ⟨bl', rfl, by omega, ?_, (hb5.setCell (Nat.le_refl _) _).setCell (Nat.le_refl _) _⟩
  exact World.rowIs.setOther (World.rowIs.setOther HMAT.out (by simp; omega) _) (by simp; omega) _

end Go.Proofs.Ytomijmikkbhgmab

namespace Go.Proofs.Ytomijmikkbhgmab
open Go.RowKit

structure MtC (w : World) (b off : Nat) (m : Mt) : Prop where
  c0 : w.cell? ⟨b, off, none⟩ = some (.int .i64 m.b)
  c1 : w.cell? ⟨b, off + 1, none⟩ = some (.int .i64 m.e)
  c2 : w.cell? ⟨b, off + 2, none⟩ = some (.int .i64 m.s)
  c3 : w.cell? ⟨b, off + 3, none⟩ = some (.int .i64 m.f)
theorem mtC_keeps : Keeps MtC := fun _ _ _ _ _ hb h => ⟨keep_cell hb h.c0, keep_cell hb h.c1, keep_cell hb h.c2, keep_cell hb h.c3⟩
def MtAt (w : World) (v : Value) (l : List Mt) : Prop := ∃ ao b off cap, SlAt w 4 MtC v l ao b off cap ∧ l.length ≤ cap
theorem MtAt.keep {w w' : World} {v : Value} {l : List Mt} (h : MtAt w v l) (hb : Below w.heap.size w w') : MtAt w' v l := by
  obtain ⟨ao, b, off, cap, h, hc⟩ := h
  exact ⟨ao, b, off, cap, h.keep mtC_keeps hb, hc⟩

set_option maxRecDepth 20000 in
set_option maxHeartbeats 1000000 in
theorem parted_any (n : Nat) (hn : n ≤ 96) (ms : List Mt) (hms : ms.length ≤ 6) (hne : ms ≠ [] → 0 < n) (A : List (Int × Int)) (bl : Nat) (v : Value) (w : World) (hm : MatAt w bl n A) (hv : MtAt w v ms) :
    Calls Try.prog 103 #[.agg #[.int .i64 n, .slice (some ⟨bl, 0, none⟩) (n * n) (n * n)], v] w fun e w' => ∃ b : Bool, e = .returned (.bool b) ∧ (b = true ↔ Parts n ms A) ∧ Below w.heap.size w w' := by
  induction ms generalizing A bl v w with
  | nil =>
    obtain ⟨ao, b, off, cap, ⟨rfl, _, _, _⟩, _⟩ := hv
    have hba := below_alloc w (.cells #[.int .i64 n, .slice (some ⟨bl, 0, none⟩) (n * n) (n * n)] 133)
    have HST : Hid (SetAt (w.alloc (.cells #[.int .i64 n, .slice (some ⟨bl, 0, none⟩) (n * n) (n * n)] 133)) w.heap.size bl n A) := ⟨by simp, by simp, hm.keep hba, by have := hm.lt; omega⟩
    clear hm
    go_enter Try.func103, Try.ntmps103
    go_wp2_with fail
    refine (hasCircle_any n hn A _ bl _ HST.out).mono ?_
    rintro e w2 ⟨bb, rfl, hbb, hb2⟩
    have HB : Hid (bb = true ↔ Cyc n A) := hbb
    clear hbb
    cases bb
    · go_wp2_with fail
      go_ret
      exact ⟨true, rfl, ⟨fun _ => (fun h => (by have := HB.out.2 h; cases this)), fun _ => rfl⟩, below_more hba hb2⟩
    · go_wp2_with fail
      go_ret
      exact ⟨false, rfl, ⟨fun h => (by cases h), fun h => absurd (HB.out.1 trivial) h⟩, below_more hba hb2⟩
  | cons m ms ih =>
    have h0n : 0 < n := hne (by simp)
    obtain ⟨ao, b, off, cap, ⟨hvv, ha, hnn, hc⟩, hcap⟩ := hv
    subst hvv
    have hao := ha (by simp)
    subst hao
    have hC0 := hc 0 m rfl
    rw [Nat.zero_mul, Nat.add_zero] at hC0
    have HC0 : Hid (MtC w b off m) := hC0
    have HC : Hid (∀ k x, (m :: ms)[k]? = some x → MtC w b (off + k * 4) x) := hc
    have hba := below_alloc w (.cells #[.int .i64 n, .slice (some ⟨bl, 0, none⟩) (n * n) (n * n)] 133)
    have HST : Hid (SetAt (w.alloc (.cells #[.int .i64 n, .slice (some ⟨bl, 0, none⟩) (n * n) (n * n)] 133)) w.heap.size bl n A) := ⟨by simp, by simp, hm.keep hba, by have := hm.lt; omega⟩
    clear hm hC0 hc
    have hl0 : (((m :: ms).length : Int) == 0) = false := by first | (simp; done) | (simp; omega)
    have hl1 : (0 : Int) < ((m :: ms).length : Int) := by first | (simp; done) | (simp; omega)
    have hl2 : (1 : Int) ≤ ((m :: ms).length : Int) := by first | (simp; done) | (simp; omega)
    have hcl : ((m :: ms).length : Int) ≤ (cap : Int) := by omega
    have hLL : (m :: ms).length = ms.length + 1 := by simp
    generalize (m :: ms).length = L at *
    go_enter Try.func103, Try.ntmps103
    go_wp2_with fail
    refine (hasCircle_any n hn A _ bl _ HST.out).mono ?_
    rintro e w2 ⟨bb, rfl, hbb, hb2⟩
    have HB : Hid (bb = true ↔ Cyc n A) := hbb
    have hbw2 := below_more hba hb2
    clear hbb
    cases bb
    · obtain ⟨c0, c1, c2, c3⟩ := mtC_keeps _ _ _ _ _ hbw2 HC0.out
      have m0 := World.block_lt_of_cell? _ _ c0
      simp only at m0
      obtain ⟨aoX, hX⟩ : ∃ aoX, (if cap = 1 then (some ⟨b, off, none⟩ : Option Addr) else some ⟨b, off + 4, none⟩) = aoX := ⟨_, rfl⟩
      have HRS : Hid (MtAt w (.slice aoX ms.length (cap - 1)) ms) := by
        rw [← hX]
        by_cases e : cap = 1
        · rw [if_pos e]
          have : ms = [] := List.eq_nil_of_length_eq_zero (by omega)
          subst this
          exact ⟨_, b, off, _, ⟨rfl, fun h => absurd rfl h, fun h => by simp at h, fun k x h => by simp at h⟩, Nat.zero_le _⟩
        · rw [if_neg e]
          refine ⟨_, b, off + 4, _, ⟨rfl, fun _ => rfl, fun h => by simp at h, fun k x hx => ?_⟩, by omega⟩
          have := HC.out (k + 1) x (by simpa using hx)
          rw [show off + (k + 1) * 4 = off + 4 + k * 4 by omega] at this
          exact this
      have hba3 := below_alloc w2 (.cells #[.int .i64 m.b, .int .i64 m.e, .int .i64 m.s, .int .i64 m.f] 152)
      have HST3 : Hid (SetAt (w2.alloc (.cells #[.int .i64 m.b, .int .i64 m.e, .int .i64 m.s, .int .i64 m.f] 152)) w.heap.size bl n A) := (HST.out.keep hb2).keep hba3
      have HBX : Hid (∀ w', Below (w2.heap.size + 1) (w2.alloc (.cells #[.int .i64 m.b, .int .i64 m.e, .int .i64 m.s, .int .i64 m.f] 152)) w' → w'.cell? ⟨w2.heap.size, 0, none⟩ = some (.int .i64 m.b) ∧ w'.cell? ⟨w2.heap.size, 2, none⟩ = some (.int .i64 m.s) ∧ w2.heap.size < w'.heap.size) := fun w' hb => by
        have h1 := hb.cell (p := ⟨w2.heap.size, 0, none⟩) (by simp)
        have h2 := hb.cell (p := ⟨w2.heap.size, 2, none⟩) (by simp)
        have h3 := hb.size
        exact ⟨h1.trans (by simp), h2.trans (by simp), by simp at h3; omega⟩
      have hbw3 : Below w.heap.size w (w2.alloc (.cells #[.int .i64 m.b, .int .i64 m.e, .int .i64 m.s, .int .i64 m.f] 152)) := below_more hbw2 hba3
      have HIH : Hid (∀ (A' : List (Int × Int)) (bl' : Nat) (w' : World), Below w.heap.size w w' → MatAt w' bl' n A' → Calls Try.prog 103 #[.agg #[.int .i64 n, .slice (some ⟨bl', 0, none⟩) (n * n) (n * n)], .slice aoX ms.length (cap - 1)] w' fun e w'' => ∃ b : Bool, e = .returned (.bool b) ∧ (b = true ↔ Parts n ms A') ∧ Below w'.heap.size w' w'') := fun A' bl' w' hb' hm' => ih (by omega) (fun _ => h0n) A' bl' _ w' hm' (HRS.out.keep hb')
      have HPC : Hid (Parts n (m :: ms) A ↔ ¬ Cyc n A ∧ (Parts n ms (A ++ [(m.e, m.f)]) ∨ Parts n ms (A ++ [(m.s, m.b)]))) := Iff.rfl
      have HNC : Hid (¬ Cyc n A) := fun h => by have := HB.out.2 h; cases this
      clear ih HRS hba3 HST HC0 HC
      go_wp2_with fail
      clear hX c0 c1 c2 c3
      generalize hW3 : w2.alloc (.cells #[.int .i64 m.b, .int .i64 m.e, .int .i64 m.s, .int .i64 m.f] 152) = W3 at *
      have hs3 : W3.heap.size = w2.heap.size + 1 := by rw [← hW3]; simp
      rw [← hs3] at HBX
      generalize w2.heap.size = q5 at *
      refine (with_any n hn h0n A w.heap.size bl m.e m.f W3 HST3.out).mono ?_
      rintro e w4 ⟨bl4, rfl, hbl4, hm4, hb4⟩
      have hbw4 := below_more hbw3 hb4
      have hba4 := below_alloc w4 (.cells #[.int .i64 n, .slice (some ⟨bl4, 0, none⟩) (n * n) (n * n)] 133)
      have HM4 : Hid (MatAt (w4.alloc (.cells #[.int .i64 n, .slice (some ⟨bl4, 0, none⟩) (n * n) (n * n)] 133)) bl4 n (A ++ [(m.e, m.f)])) := hm4.keep hba4
      have hbw5 : Below w.heap.size w (w4.alloc (.cells #[.int .i64 n, .slice (some ⟨bl4, 0, none⟩) (n * n) (n * n)] 133)) := below_more hbw4 hba4
      have hb35 : Below W3.heap.size W3 (w4.alloc (.cells #[.int .i64 n, .slice (some ⟨bl4, 0, none⟩) (n * n) (n * n)] 133)) := below_more hb4 hba4
      clear hm4 hba4
      go_wp2_with fail
      refine (HIH.out _ bl4 _ hbw5 HM4.out).mono ?_
      rintro e w6 ⟨b6, rfl, hi6, hb6⟩
      have H6 : Hid (b6 = true ↔ Parts n ms (A ++ [(m.e, m.f)])) := hi6
      have hbw6 := below_more hbw5 hb6
      have hb36 := below_more hb35 hb6
      clear hi6
      cases b6
      · obtain ⟨g0, g2, gs⟩ := HBX.out w6 hb36
        have HST6 : Hid (SetAt w6 w.heap.size bl n A) := HST3.out.keep hb36
        go_wp2_with fail
        refine (with_any n hn h0n A w.heap.size bl m.s m.b w6 HST6.out).mono ?_
        rintro e w7 ⟨bl7, rfl, hbl7, hm7, hb7⟩
        have hbw7 := below_more hbw6 hb7
        have hba7 := below_alloc w7 (.cells #[.int .i64 n, .slice (some ⟨bl7, 0, none⟩) (n * n) (n * n)] 133)
        have HM7 : Hid (MatAt (w7.alloc (.cells #[.int .i64 n, .slice (some ⟨bl7, 0, none⟩) (n * n) (n * n)] 133)) bl7 n (A ++ [(m.s, m.b)])) := hm7.keep hba7
        have hbw8 : Below w.heap.size w (w7.alloc (.cells #[.int .i64 n, .slice (some ⟨bl7, 0, none⟩) (n * n) (n * n)] 133)) := below_more hbw7 hba7
        clear hm7 hba7 g0 g2
        go_wp2_with fail
        refine (HIH.out _ bl7 _ hbw8 HM7.out).mono ?_
        rintro e w9 ⟨b9, rfl, hi9, hb9⟩
        have H9 : Hid (b9 = true ↔ Parts n ms (A ++ [(m.s, m.b)])) := hi9
        clear hi9
        go_wp2_with fail
        go_ret
        refine ⟨b9, rfl, ?_, below_more hbw8 hb9⟩
        rw [HPC.out, H9.out]
        constructor
        · intro h; exact ⟨HNC.out, .inr h⟩
        · rintro ⟨_, h | h⟩
          · have := H6.out.2 h; cases this
          · exact h
      · go_wp2_with fail
        go_ret
        exact ⟨true, rfl, ⟨fun _ => HPC.out.2 ⟨HNC.out, .inl (H6.out.1 trivial)⟩, fun _ => rfl⟩, hbw6⟩
    · go_wp2_with fail
      go_ret
      exact ⟨false, rfl, ⟨fun h => (by cases h), fun h => absurd (HB.out.1 trivial) h.1⟩, hbw2⟩

end Go.Proofs.Ytomijmikkbhgmab

namespace Go.Proofs.Ytomijmikkbhgmab
open Go.RowKit

theorem Try.infoMt : (Try.prog.info? 152).map (fun i => (i.zero, i.size, i.bytes)) = some (some (.agg #[.int .i64 0, .int .i64 0, .int .i64 0, .int .i64 0]), 4, 32) := by kernel_rfl

def mtV (m : Mt) : List Value := [.int .i64 m.b, .int .i64 m.e, .int .i64 m.s, .int .i64 m.f]
def MtOwn (base : Nat) (w : World) (u : Value) (l : List Mt) : Prop := w.ownsRow base 152 4 u l.length (l.flatMap mtV)
theorem MtOwn.at' {base : Nat} {w : World} {u : Value} {l : List Mt} (h : MtOwn base w u l) : MtAt w u l := by
  obtain ⟨ao, b, off, cap, h, _, hc⟩ := owns_read (C := MtC) mtV 4 (fun _ => rfl) (fun b off x hx => ⟨hx 0 _ rfl, hx 1 _ rfl, hx 2 _ rfl, hx 3 _ rfl⟩) h
  exact ⟨ao, b, off, cap, h, hc⟩
theorem mt_snoc {base : Nat} {w : World} {u : Value} {l : List Mt} {m : Mt} (h : w.ownsRow base 152 4 u (l.length + 1) (l.flatMap mtV ++ mtV m)) : MtOwn base w u (l ++ [m]) := by
  unfold MtOwn
  simpa using h

theorem mtL_step {b d s : List Int} {k : Nat} {x y : Int} (h1 : b[k]? = some x) (h2 : d[k]? = some y) : mtL (b.take (k + 1)) (d.take (k + 1)) s = mtL (b.take k) (d.take k) s ++ s.map fun q => ⟨x, y, q, q + 1⟩ := by
  have hb := (List.getElem?_eq_some_iff.1 h1).1
  have hd := (List.getElem?_eq_some_iff.1 h2).1
  unfold mtL
  rw [List.take_add_one, List.take_add_one, h1, h2]
  have hz : (b.take k ++ [x]).zip (d.take k ++ [y]) = (b.take k).zip (d.take k) ++ [(x, y)] := by
    rw [List.zip_append (by simp; omega)]
    rfl
  show List.flatMap _ ((b.take k ++ [x]).zip (d.take k ++ [y])) = _
  rw [hz, List.flatMap_append]
  simp

set_option maxRecDepth 20000 in
set_option maxHeartbeats 2000000 in
theorem meetings_any (E : List Evt) (hE : E.length ≤ 96) (hM : Mts E) (v : Value) (w : World) (h : Ev4At w v E) :
    Calls Try.prog 102 #[v] w fun e w' => ∃ u, e = .returned u ∧ MtAt w' u (mtL (thoL 2 E 0) (thoL 3 E 0) (thoL 4 E 0)) ∧ Below w.heap.size w w' := by
  have HT : Hid (∀ w', Below w.heap.size w w' → ∀ kd : Int, Calls Try.prog 116 #[v, .int .i64 kd] w' fun e w'' => ∃ u, e = .returned u ∧ IntNew w'.heap.size w'' u (thoL kd E 0) ∧ Below w'.heap.size w' w'') := fun w' hb kd => ofKind_any E hE kd v w' (h.keep hb)
  have hbe := hM.be
  have hb3 := hM.b3
  have hs2 := hM.s2
  have hsf : (thoL 5 E 0).length = (thoL 4 E 0).length := by rw [hM.sf, List.length_map]
  have HSF : Hid (∀ (j : Nat) (z : Int), (thoL 4 E 0)[j]? = some z → (thoL 5 E 0)[j]? = some (z + 1)) := fun j z hz => by rw [hM.sf, List.getElem?_map, hz]; rfl
  have HEND : Hid (mtL ((thoL 2 E 0).take (thoL 2 E 0).length) ((thoL 3 E 0).take (thoL 2 E 0).length) (thoL 4 E 0) = mtL (thoL 2 E 0) (thoL 3 E 0) (thoL 4 E 0)) := by
    show _ = _
    rw [List.take_length, ← hbe, List.take_length]
  generalize mtL (thoL 2 E 0) (thoL 3 E 0) (thoL 4 E 0) = MS at HEND ⊢
  obtain ⟨ao, b, off, cap, hv, _⟩ := h
  subst hv
  obtain ⟨i0, hi, hz0, hz1, hz2⟩ := info_parts Try.infoMt
  have HI : Hid (Try.prog.info? 152 = some i0 ∧ i0.zero = some (.agg #[.int .i64 0, .int .i64 0, .int .i64 0, .int .i64 0]) ∧ i0.size = 4 ∧ i0.bytes = 32) := ⟨hi, hz0, hz1, hz2⟩
  have H2 := HT.out w (Below.refl _ _) 2
  clear hM hi hz0 hz1 hz2
  go_enter Try.func102, Try.ntmps102
  go_wp2_with fail
  refine H2.mono ?_
  clear H2
  rintro e w2 ⟨u2, rfl, hu2, hb2⟩
  obtain ⟨ao2, b2, off2, cap2, ⟨hv2, ha2, _, hc2⟩, _⟩ := hu2
  subst hv2
  go_wp2_with fail
  refine (HT.out w2 hb2 3).mono ?_
  rintro e w3 ⟨u3, rfl, hu3, hb3'⟩
  obtain ⟨ao3, b3, off3, cap3, ⟨hv3, ha3, _, hc3⟩, _⟩ := hu3
  subst hv3
  have hbw3 := below_more hb2 hb3'
  go_wp2_with fail
  refine (HT.out w3 hbw3 4).mono ?_
  rintro e w4 ⟨u4, rfl, hu4, hb4⟩
  obtain ⟨ao4, b4, off4, cap4, ⟨hv4, ha4, _, hc4⟩, _⟩ := hu4
  subst hv4
  have hbw4 := below_more hbw3 hb4
  go_wp2_with fail
  refine (HT.out w4 hbw4 5).mono ?_
  rintro e w5 ⟨u5', rfl, hu5, hb5⟩
  obtain ⟨ao5, b5, off5, cap5, ⟨hv5, ha5, _, hc5⟩, _⟩ := hu5
  subst hv5
  have hbw5 := below_more hbw4 hb5
  have HL2 : Hid (∀ k x, (thoL 2 E 0)[k]? = some x → w5.cell? ⟨b2, off2 + k, none⟩ = some (.int .i64 x)) := fun k x hx => by
    have := keep_cell (below_more (below_more hb3' hb4) hb5) (hc2 k x hx)
    rw [Nat.mul_one] at this; exact this
  have HL3 : Hid (∀ k x, (thoL 3 E 0)[k]? = some x → w5.cell? ⟨b3, off3 + k, none⟩ = some (.int .i64 x)) := fun k x hx => by
    have := keep_cell (below_more hb4 hb5) (hc3 k x hx)
    rw [Nat.mul_one] at this; exact this
  have HL4 : Hid (∀ k x, (thoL 4 E 0)[k]? = some x → w5.cell? ⟨b4, off4 + k, none⟩ = some (.int .i64 x)) := fun k x hx => by
    have := keep_cell hb5 (hc4 k x hx)
    rw [Nat.mul_one] at this; exact this
  have HL5 : Hid (∀ k x, (thoL 5 E 0)[k]? = some x → w5.cell? ⟨b5, off5 + k, none⟩ = some (.int .i64 x)) := fun k x hx => by
    have := hc5 k x hx
    unfold IntC at this
    rw [Nat.mul_one] at this; exact this
  clear hb4 hb5 hbw3 hbw4 hc2 hc3 hc4 hc5 hb2 hb3' HT
  generalize thoL 2 E 0 = L2 at *
  generalize thoL 3 E 0 = L3 at *
  generalize thoL 4 E 0 = L4 at *
  generalize thoL 5 E 0 = L5 at *
  go_wp2_with fail
  go_loopw [7, 22] (fun u i wr => ∃ k : Nat, k ≤ L2.length ∧ i = .int .i64 k ∧ Hid (MtOwn w5.heap.size wr u (mtL (L2.take k) (L3.take k) L4)) ∧ Below w5.heap.size w5 wr) (fun _ i _ => L2.length - (intOf i).toNat)
  case atStart => exact ⟨0, Nat.zero_le _, rfl, World.ownsRow_nil _ _ _ _, Below.refl _ _⟩
  case round =>
    obtain ⟨k, hk, rfl, hown, hb⟩ := hrel
    by_cases hlt : k < L2.length
    · obtain ⟨x2, hx2⟩ := get_of_lt hlt
      obtain ⟨x3, hx3⟩ := get_of_lt (l := L3) (k := k) (by omega)
      obtain rfl := ha2 (ne_nil hlt)
      obtain rfl := ha3 (ne_nil (k := k) (by omega))
      have HC3 : Hid (w5.cell? ⟨b3, off3 + k, none⟩ = some (.int .i64 x3)) := HL3.out k x3 hx3
      have c2 := keep_cell hb (HL2.out k x2 hx2)
      have hkI : (k : Int) < (L2.length : Int) := by omega
      have hk3I : (k : Int) < (L3.length : Int) := by omega
      have HST : Hid (mtL (L2.take (k + 1)) (L3.take (k + 1)) L4 = mtL (L2.take k) (L3.take k) L4 ++ L4.map fun q => ⟨x2, x3, q, q + 1⟩) := mtL_step hx2 hx3
      have hml : (mtL (L2.take k) (L3.take k) L4).length ≤ 6 := by
        rw [mtL_len _ _ _ (by simp; omega), List.length_take]
        exact Nat.le_trans (Nat.mul_le_mul (by omega : min k L2.length ≤ 3) hs2) (by decide)
      generalize mtL (L2.take k) (L3.take k) L4 = M0 at hown HST hml
      have HO : Hid (MtOwn w5.heap.size wr u7 (M0 ++ (L4.take 0).map fun q => ⟨x2, x3, q, q + 1⟩)) := by
        show MtOwn w5.heap.size wr u7 (M0 ++ [])
        rw [List.append_nil]; exact hown.out
      clear hown hx2 hx3
      go_wp2_with fail
      clear c2
      go_loopw [7, 29] (fun u i wr => ∃ j : Nat, j ≤ L4.length ∧ i = .int .i64 j ∧ Hid (MtOwn w5.heap.size wr u (M0 ++ (L4.take j).map fun q => ⟨x2, x3, q, q + 1⟩)) ∧ Below w5.heap.size w5 wr) (fun _ i _ => L4.length - (intOf i).toNat)
      case atStart => exact ⟨0, Nat.zero_le _, rfl, HO.out, hb⟩
      case round =>
        clear HO hb
        obtain ⟨j, hj, rfl, hown, hb⟩ := hrel
        by_cases hjl : j < L4.length
        · obtain ⟨x4, hx4⟩ := get_of_lt hjl
          have hx5 := HSF.out j x4 hx4
          obtain rfl := ha4 (ne_nil hjl)
          obtain rfl := ha5 (ne_nil (k := j) (by omega))
          have c3 := keep_cell hb HC3.out
          have c4 := keep_cell hb (HL4.out j x4 hx4)
          have c5 := keep_cell hb (HL5.out j _ hx5)
          have hjI : (j : Int) < (L4.length : Int) := by omega
          have hj5I : (j : Int) < (L5.length : Int) := by omega
          have hd1 : decide ((k : Int) < (L3.length : Int)) = true := by simp; omega
          have hsz := hb.size
          have HN : Hid (M0 ++ (L4.take (j + 1)).map (fun q => (⟨x2, x3, q, q + 1⟩ : Mt)) = (M0 ++ (L4.take j).map fun q => ⟨x2, x3, q, q + 1⟩) ++ [⟨x2, x3, x4, x4 + 1⟩]) := by show _ = _; rw [List.take_add_one, hx4]; simp
          have hM1 : (M0 ++ (L4.take j).map fun q => (⟨x2, x3, q, q + 1⟩ : Mt)).length ≤ 100 := by rw [List.length_append, List.length_map, List.length_take]; omega
          generalize M0 ++ (L4.take j).map (fun q => (⟨x2, x3, q, q + 1⟩ : Mt)) = M1 at hown HN hM1
          generalize x4 + 1 = x5 at c5 HN
          have HO := hown
          clear hown hx4 hx5
          go_wp2_with fail
          go_region_law (refine step_append_new _ rfl (.tmp 44) (.tmp 56) 138 rfl w5.heap.size 152 i0 (.agg #[.int .i64 0, .int .i64 0, .int .i64 0, .int .i64 0]) 4 32 Try.underlying138 HI.out.1 HI.out.2.1 HI.out.2.2.1 HI.out.2.2.2 rfl (by decide) u7 M1.length (M1.flatMap mtV) (by simp [Act.eval]) (HO.out.drew.alloc _) (some ⟨wr.heap.size, 0, none⟩) 1 1 (mtV ⟨x2, x3, x4, x5⟩) (by simp [Act.eval]) (fun h => by cases h) rfl (fun ad had => by cases had; exact new_many rfl) (by simp [mtV, Value.oneCell']) (by unfold maxLen; omega) (by omega) (by simp; omega) ?_; intro u9 w9 hown9 hgrow9 hap9)
          all_goals
            have hb9 : Below w5.heap.size w5 w9 := Below.grown (hb.drew.alloc (by simp; omega) _) hgrow9 (by simp; omega) (fun kk e => (HO.out.lt kk e).1)
            have HO9 : Hid (MtOwn w5.heap.size w9 u9 (M0 ++ (L4.take (j + 1)).map fun q => ⟨x2, x3, q, q + 1⟩)) := by rw [HN.out]; exact mt_snoc hown9
            clear hgrow9 hown9 hap9
            go_wp2_with fail
            go_roundw
            case measure => simp [intOf]; omega
            case rel => exact ⟨j + 1, by omega, by go_num, HO9.out, hb9⟩
        · have hjI : (L4.length : Int) ≤ (j : Int) := by omega
          have htk : Hid (L4.take j = L4) := List.take_of_length_le (by omega)
          have HO2 : Hid (MtOwn w5.heap.size wr u7 (mtL (L2.take (k + 1)) (L3.take (k + 1)) L4)) := by rw [HST.out]; have := hown.out; rw [htk.out] at this; exact this
          clear hown
          go_wp2_with fail
          go_roundw
          case measure => simp [intOf]; omega
          case rel => exact ⟨k + 1, by omega, by go_num, HO2.out, hb⟩
    · have hkI : (L2.length : Int) ≤ (k : Int) := by omega
      have hkk : k = L2.length := by omega
      have HO := hown
      rw [hkk] at HO
      clear hown
      go_wp2_with fail
      go_ret
      exact ⟨_, rfl, by rw [← HEND.out]; exact HO.out.at', below_more hbw5 hb⟩

end Go.Proofs.Ytomijmikkbhgmab

namespace Go.Proofs.Ytomijmikkbhgmab
open Go.RowKit

theorem mts_len {E : List Evt} (h : Mts E) : (mtL (thoL 2 E 0) (thoL 3 E 0) (thoL 4 E 0)).length ≤ 6 ∧ (mtL (thoL 2 E 0) (thoL 3 E 0) (thoL 4 E 0) ≠ [] → 0 < E.length) := by
  refine ⟨?_, fun hne => ?_⟩
  · rw [mtL_len _ _ _ h.be]
    exact Nat.le_trans (Nat.mul_le_mul h.b3 h.s2) (by decide)
  · refine Nat.pos_of_ne_zero fun h0 => hne ?_
    have : E = [] := List.eq_nil_of_length_eq_zero h0
    subst this
    rfl

set_option maxRecDepth 20000 in
set_option maxHeartbeats 1000000 in
theorem of_any (T : List (List Ins)) (hS : Short T) (vt : Value) (E : List Evt) (hE : E.length ≤ 96) (hin : EvsIn T E) (hM : Mts E) (x : Exe) (hf : x.from'.length ≤ 96) (h3 : x.order.length ≤ 3) (h96 : ∀ l ∈ x.order, l.length ≤ 96) (hRb : ∀ i, i < E.length → 0 ≤ rankG E.length (srcL E x.from') x.order i ∧ rankG E.length (srcL E x.from') x.order i ≤ 1000) (v vf vo : Value) (w : World) (ht : ThrAt w vt T) (h : Ev4Cap w v E) (hx : ExeAt w vf vo x) :
    Calls Try.prog 77 #[vt, v, .agg #[vf, vo]] w fun e w' => ∃ r : Int, e = .returned (.int .i64 r) ∧ JudIs (Cyc E.length (cohB E x)) (tornQ (torQ E (rankG E.length (srcL E x.from') x.order)) E.length) (Cyc E.length (kepQ T E x)) (¬ Parts E.length (mtL (thoL 2 E 0) (thoL 3 E 0) (thoL 4 E 0)) (kepQ T E x)) r ∧ Below w.heap.size w w' := by
  have HSR : Hid (∀ w', Below w.heap.size w w' → Calls Try.prog 95 #[v, vf] w' fun e w'' => e = .returned (.slice (some ⟨w'.heap.size, 0, none⟩) E.length E.length) ∧ Row w' w'' w'.heap.size E.length (fun j => (srcL E x.from').getD j 0)) := fun w' hb => sourcesJ_any E hE x.from' hf v vf w' (h.at'.keep hb) (hx.f.keep hb)
  have hSl := srcL_len E x.from'
  have HRK : Hid (∀ w' vs, Below w.heap.size w w' → IntAt w' vs (srcL E x.from') → Calls Try.prog 96 #[v, vs, vo] w' fun e w'' => e = .returned (.slice (some ⟨w'.heap.size, 0, none⟩) E.length E.length) ∧ Row w' w'' w'.heap.size E.length (rankG E.length (srcL E x.from') x.order)) := fun w' vs hb hs => ranks_any E hE (srcL E x.from') hSl x.order h3 h96 v vs vo w' (h.at'.keep hb) hs (hx.o.keep hb)
  have HM : Hid (∀ w', Below w.heap.size w w' → Calls Try.prog 102 #[v] w' fun e w'' => ∃ u, e = .returned u ∧ MtAt w'' u (mtL (thoL 2 E 0) (thoL 3 E 0) (thoL 4 E 0)) ∧ Below w'.heap.size w' w'') := fun w' hb => meetings_any E hE hM v w' (h.at'.keep hb)
  have HML : Hid ((mtL (thoL 2 E 0) (thoL 3 E 0) (thoL 4 E 0)).length ≤ 6 ∧ (mtL (thoL 2 E 0) (thoL 3 E 0) (thoL 4 E 0) ≠ [] → 0 < E.length)) := mts_len hM
  generalize mtL (thoL 2 E 0) (thoL 3 E 0) (thoL 4 E 0) = MS at HM HML ⊢
  have HSQ : Hid ((List.range E.length).map (fun j => (srcL E x.from').getD j 0) = srcL E x.from') := range_getD _ _ hSl
  have HCB : Hid (cohB E x = allS (exF E (rankG E.length (srcL E x.from') x.order)) (fun j => (srcL E x.from').getD j 0) E.length E.length ++ allU (pairB E cohQ) E.length) := rfl
  have HKQ : Hid (kepQ T E x = allS (exF E (rankG E.length (srcL E x.from') x.order)) (fun j => (srcL E x.from').getD j 0) E.length E.length ++ allU (pairB E (keepQ T E)) E.length) := rfl
  have HEV : Hid (Ev4Cap w v E ∧ ThrAt w vt T ∧ Short T ∧ EvsIn T E) := ⟨h, ht, hS, hin⟩
  obtain ⟨aof, capf, hvf⟩ := hx.f.form
  obtain ⟨aoo, bo, offo, capo, hvo, _⟩ := hx.o
  obtain ⟨_, aoT, bT, offT, capT, hvT, _⟩ := ht
  obtain ⟨ao, b, off, cap, ⟨hv, _, _, _⟩, _⟩ := h
  subst hv hvf hvo hvT
  generalize rankG E.length (srcL E x.from') x.order = R at *
  generalize hSS : (fun j => (srcL E x.from').getD j 0) = S at *
  generalize srcL E x.from' = SL at *
  have HRB : Hid (∀ i, i < E.length → 0 ≤ R i ∧ R i ≤ 1000) := hRb
  clear hSS hSl hRb hx hM hS hin
  go_enter Try.func77, Try.ntmps77
  go_wp2_with fail
  have hba := below_alloc w (.cells #[.slice aof x.from'.length capf, .slice aoo x.order.length capo] 96)
  refine (HSR.out _ hba).mono ?_
  rintro e w2 ⟨rfl, hrow2⟩
  have hbw2 := below_more hba hrow2.hb
  have hI2 := hrow2.list
  rw [HSQ.out] at hI2
  have e0 := keep_cell hrow2.hb (b := w.heap.size) (off := 1) (u := .slice aoo x.order.length capo) (by simp)
  rw [World.size_alloc] at hI2 ⊢
  generalize w.heap.size + 1 = q2 at hI2 ⊢
  have HI2 : Hid (IntAt w2 (.slice (some ⟨q2, 0, none⟩) E.length E.length) SL) := hI2
  clear hrow2 hI2
  go_wp2_with fail
  refine (HRK.out w2 _ hbw2 HI2.out).mono ?_
  rintro e w3 ⟨rfl, hrow3⟩
  have hbw3 := below_more hbw2 hrow3.hb
  have hI3 := hrow3.list
  have HI23 : Hid (IntAt w3 (.slice (some ⟨q2, 0, none⟩) E.length E.length) ((List.range E.length).map S)) := by rw [HSQ.out]; exact HI2.out.keep hrow3.hb
  generalize w2.heap.size = q3 at hI3 ⊢
  have HI3 : Hid (IntAt w3 (.slice (some ⟨q3, 0, none⟩) E.length E.length) ((List.range E.length).map R)) := hI3
  have HEV3 : Hid (Ev4Cap w3 (.slice ao E.length cap) E) := HEV.out.1.keep hbw3
  clear hrow3 hI3 e0 HI2
  go_wp2_with fail
  refine (isIncoherent_any E hE S R _ _ _ w3 HEV3.out HI23.out HI3.out).mono ?_
  rw [← HCB.out]
  rintro e w4 ⟨b4, rfl, hi4, hb4⟩
  have hbw4 := below_more hbw3 hb4
  have HP : Hid (b4 = true ↔ Cyc E.length (cohB E x)) := hi4
  clear hi4
  cases b4
  · have HNP : Hid (¬ Cyc E.length (cohB E x)) := fun h => by have := HP.out.2 h; cases this
    go_wp2_with fail
    refine (isTorn_any E hE R HRB.out _ _ w4 (HEV3.out.keep hb4) (HI3.out.keep hb4)).mono ?_
    generalize htb : tornQ (torQ E R) E.length = tb
    have HTB : Hid (tornQ (torQ E R) E.length = tb) := htb
    clear htb
    rintro e w5 ⟨rfl, hb5⟩
    have hb45 := below_more hb4 hb5
    have hbw5 := below_more hbw4 hb5
    cases tb
    · go_wp2_with fail
      refine (executed_any E hE S R _ _ _ w5 (HEV3.out.keep hb45).at' (HI23.out.keep hb45) (HI3.out.keep hb45)).mono ?_
      rintro e w6 ⟨bl, rfl, hblw, hm6, hb6⟩
      have hbw6 := below_more hbw5 hb6
      have hba6 := below_alloc w6 (.cells #[.int .i64 E.length, .slice (some ⟨bl, 0, none⟩) (E.length * E.length) (E.length * E.length)] 133)
      have hst6 : SetAt (w6.alloc (.cells #[.int .i64 E.length, .slice (some ⟨bl, 0, none⟩) (E.length * E.length) (E.length * E.length)] 133)) w6.heap.size bl E.length (allS (exF E R) S E.length E.length) := ⟨by simp, by simp, hm6.keep hba6, by have := hm6.lt; omega⟩
      have HAK : Hid (Calls Try.prog 100 #[.pointer (some ⟨w6.heap.size, 0, none⟩), .slice aoT T.length capT, .slice ao E.length cap] (w6.alloc (.cells #[.int .i64 E.length, .slice (some ⟨bl, 0, none⟩) (E.length * E.length) (E.length * E.length)] 133)) fun e w' => ∃ r, e = .returned r ∧ SetAt w' w6.heap.size bl E.length (allS (exF E R) S E.length E.length ++ allU (pairB E (keepQ T E)) E.length) ∧ Only bl (w6.alloc (.cells #[.int .i64 E.length, .slice (some ⟨bl, 0, none⟩) (E.length * E.length) (E.length * E.length)] 133)) w') :=
        addKept_any T HEV.out.2.2.1 _ E hE HEV.out.2.2.2 _ _ w6.heap.size bl w5 _ (HEV.out.2.1.keep hbw5) (HEV.out.1.keep hbw5) (below_more hb6 hba6) hblw hst6
      clear hst6
      go_wp2_with fail
      refine HAK.out.mono ?_
      rw [← HKQ.out]
      rintro e w7 ⟨r7, rfl, hst7, hon7⟩
      have hbw7 : Below w.heap.size w w7 := (below_more hbw6 hba6).trans (hon7.below (by have := hbw5.size; omega) (below_more hbw6 hba6).size)
      generalize w6.heap.size = p6 at *
      have HST7 : Hid (SetAt w7 p6 bl E.length (kepQ T E x)) := hst7
      clear hst7 hon7 HAK hm6
      go_wp2_with fail
      refine (hasCircle_any E.length hE _ p6 bl w7 HST7.out).mono ?_
      rintro e w8 ⟨b8, rfl, hi8, hb8⟩
      have hbw8 := below_more hbw7 hb8
      have HQ8 : Hid (b8 = true ↔ Cyc E.length (kepQ T E x)) := hi8
      clear hi8
      cases b8
      · have HNQ : Hid (¬ Cyc E.length (kepQ T E x)) := fun h => by have := HQ8.out.2 h; cases this
        go_wp2_with fail
        refine (HM.out w8 hbw8).mono ?_
        rintro e w9 ⟨u9, rfl, hu9, hb9⟩
        have hbw9 := below_more hbw8 hb9
        obtain ⟨s0, s1, hmat9, _⟩ := (HST7.out.keep hb8).keep hb9
        have HMT : Hid (MatAt w9 bl E.length (kepQ T E x) ∧ MtAt w9 u9 MS) := ⟨hmat9, hu9⟩
        clear hmat9 hu9
        go_wp2_with fail
        refine (parted_any E.length hE MS HML.out.1 HML.out.2 _ bl _ w9 HMT.out.1 HMT.out.2).mono ?_
        rintro e w10 ⟨b10, rfl, hi10, hb10⟩
        have H10 : Hid (b10 = true ↔ Parts E.length MS (kepQ T E x)) := hi10
        clear hi10
        cases b10
        · have HS10 : Hid (¬ Parts E.length MS (kepQ T E x)) := fun h => by have := H10.out.2 h; cases this
          go_wp2_with fail
          go_ret
          exact ⟨4, rfl, .inr ⟨HNP.out, .inr ⟨HTB.out, .inr ⟨HNQ.out, .inl ⟨rfl, HS10.out⟩⟩⟩⟩, below_more hbw9 hb10⟩
        · go_wp2_with fail
          go_ret
          exact ⟨0, rfl, .inr ⟨HNP.out, .inr ⟨HTB.out, .inr ⟨HNQ.out, .inr ⟨fun h => h (H10.out.1 trivial), rfl⟩⟩⟩⟩, below_more hbw9 hb10⟩
      · go_wp2_with fail
        go_ret
        exact ⟨3, rfl, .inr ⟨HNP.out, .inr ⟨HTB.out, .inl ⟨rfl, HQ8.out.1 trivial⟩⟩⟩, hbw8⟩
    · go_wp2_with fail
      go_ret
      exact ⟨2, rfl, .inr ⟨HNP.out, .inl ⟨rfl, HTB.out⟩⟩, hbw5⟩
  · go_wp2_with fail
    go_ret
    exact ⟨1, rfl, .inl ⟨rfl, HP.out.1 trivial⟩, hbw4⟩


end Go.Proofs.Ytomijmikkbhgmab

namespace Go.Proofs.Ytomijmikkbhgmab
open Go.RowKit

end Go.Proofs.Ytomijmikkbhgmab

namespace Go.Proofs.Ytomijmikkbhgmab
open Go.RowKit

/-- The events, where Check says OK. -/
def evsR (T : List (List Ins)) (c : List Atm) : List Evt := if (chk T c).1 == 0 then evsT T 0 else []
/-- How many candidates, where Check says OK. -/
def sizR (T : List (List Ins)) (c : List Atm) : Nat := if (chk T c).1 == 0 then cap2 (sizeN (evsT T 0)) else 0

theorem chk_zero {T : List (List Ins)} {c : List Atm} (h : ((chk T c).1 == 0) = true) : sizeB T c = true := by
  cases hs : sizeB T c
  · rw [chk_size hs] at h; simp at h
  · rfl

theorem ev4_nil (w : World) : Ev4At w (.slice none 0 0) [] := ⟨none, 0, 0, 0, rfl, fun h => absurd rfl h, fun _ => ⟨rfl, rfl⟩, fun k x h => by simp at h⟩

end Go.Proofs.Ytomijmikkbhgmab

namespace Go.Proofs.Ytomijmikkbhgmab
open Go.RowKit

theorem lens_all {T : List (List Ins)} (h : lensB T = true) : ∀ l ∈ T, l.length ≤ 12 := by
  induction T with
  | nil => intro l hl; cases hl
  | cons a T ih =>
    simp only [lensB, Bool.and_eq_true, decide_eq_true_eq] at h
    intro l hl
    rcases List.mem_cons.1 hl with rfl | hl
    · exact h.1
    · exact ih h.2 l hl

/-- What is so where Check says OK. -/
structure Fits (T : List (List Ins)) : Prop where
  short : Short T
  lens : lensB T = true
  el : (evsT T 0).length ≤ 96
  locs : ∀ y ∈ evsT T 0, locB y.loc = true

theorem fits_of {T : List (List Ins)} {c : List Atm} (h : ((chk T c).1 == 0) = true) : Fits T := by
  obtain ⟨h2, hL, _⟩ := sizeB_parts (chk_zero h)
  have hel := evsT_len T 0 hL
  exact ⟨⟨h2, lens_all hL⟩, hL, by omega, evsT_locs (chk_locs h)⟩

/-- What Judge answers. -/
def JOut (T : List (List Ins)) (c : List Atm) (x : Exe) (r er : Int) : Prop :=
  ((chk T c).1 ≠ 0 ∧ r = 0 ∧ er = (chk T c).1) ∨ ((chk T c).1 = 0 ∧ ((exeB (evsT T 0) x = false ∧ r = 0 ∧ er = 7) ∨
    (exeB (evsT T 0) x = true ∧ er = 0 ∧ JudIs (Cyc (evsT T 0).length (cohA (evsT T 0) x)) (tornB (evsT T 0) x) (Cyc (evsT T 0).length (kepA T (evsT T 0) x)) (¬ Parts (evsT T 0).length (mtL (thoL 2 (evsT T 0) 0) (thoL 3 (evsT T 0) 0) (thoL 4 (evsT T 0) 0)) (kepA T (evsT T 0) x)) r)))

theorem JOut.one {T : List (List Ins)} {c : List Atm} {x : Exe} {r er r' er' : Int} (h : JOut T c x r er) (k : JOut T c x r' er') : r = r' ∧ er = er' := by
  rcases h with ⟨h1, h2, h3⟩ | ⟨h1, ⟨h2, h3, h4⟩ | ⟨h2, h3, h4⟩⟩ <;>
  rcases k with ⟨k1, k2, k3⟩ | ⟨k1, ⟨k2, k3, k4⟩ | ⟨k2, k3, k4⟩⟩ <;>
  first
    | exact absurd k1 h1
    | exact absurd h1 k1
    | exact ⟨h2.trans k2.symm, h3.trans k3.symm⟩
    | exact ⟨h3.trans k3.symm, h4.trans k4.symm⟩
    | (rw [h2] at k2; cases k2; done)
    | exact ⟨h4.one k4, h3.trans k3.symm⟩

end Go.Proofs.Ytomijmikkbhgmab

namespace Go.Proofs.Ytomijmikkbhgmab
open Go.RowKit

theorem own_form1' {w : World} {base : Nat} {e : TypeId} {size : Nat} {v : Value} {n : Nat} {xs : List Value} (h : w.ownsRow base e size v n xs) : ∃ ao cap, v = .slice ao n cap := by
  rcases h.2 with ⟨rfl, rfl⟩ | ⟨g, cap, cur, hv, _⟩
  · exact ⟨none, 0, rfl⟩
  · exact ⟨_, cap, hv⟩
theorem own_some2 {w : World} {base : Nat} {e : TypeId} {size : Nat} {v : Value} {n : Nat} {xs : List Value} (h : w.ownsRow base e size v n xs) (hn : 0 < n) : ∃ g cap, v = .slice (some ⟨g, 0, none⟩) n cap := by
  rcases h.2 with ⟨rfl, rfl⟩ | ⟨g, cap, cur, hv, _⟩
  · omega
  · exact ⟨_, cap, hv⟩
theorem thr_of_own {w : World} {base : Nat} {V : Value} {T : List (List Ins)} {vs : List Value} (hT : T.length * 24 ≤ 140737488351232) (ho : w.ownsRow base 34 1 V T.length vs) (hr : ∀ (j : Nat) (l : List Ins), T[j]? = some l → ∃ u, vs[j]? = some u ∧ InsAt w u l) : ThrAt w V T := by
  refine ⟨hT, ?_⟩
  rcases ho.2 with ⟨hv, hn⟩ | ⟨g, cap, cur, hv, hg, hh, _⟩
  · have hT0 : T = [] := List.eq_nil_of_length_eq_zero hn
    subst hT0
    exact ⟨none, 0, 0, 0, hv, fun h => absurd rfl h, fun _ => ⟨rfl, rfl⟩, fun k x h => by simp at h⟩
  · refine ⟨_, g, 0, cap, hv, fun _ => rfl, fun h => by simp at h, fun k l hk => ?_⟩
    obtain ⟨u, h1, h2⟩ := hr k l hk
    have := ho.cells (g := g) (by rw [hv]; rfl) k u h1
    rw [Addr.add_lit] at this
    exact ⟨u, by rw [Nat.mul_one]; exact this, h2⟩
theorem get_set' {l : List Int} {i t : Nat} {v : Int} (ht : t < l.length) : (l.set i v)[t]? = if i = t then some v else l[t]? := by
  by_cases h : i = t
  · subst h
    rw [if_pos rfl, List.getElem?_set_self ht]
  · rw [if_neg h, List.getElem?_set_ne h]
def intV (l : List Int) : List Value := l.map fun x => .int .i64 x
theorem intV_set (l : List Int) (i : Nat) (v : Int) : (intV l).set i (.int .i64 v) = intV (l.set i v) := by unfold intV; rw [List.map_set]
theorem owns_intR {w : World} {base : Nat} {e : TypeId} {v : Value} {l : List Int} (h : w.ownsRow base e 1 v l.length (intV l)) : IntAt w v l := by
  rcases h.2 with ⟨hv, hn⟩ | ⟨g, cap, cur, hv, hg, hh, _⟩
  · have h0 : l = [] := List.eq_nil_of_length_eq_zero hn
    subst h0
    exact ⟨none, 0, 0, 0, hv, fun h => absurd rfl h, fun _ => ⟨rfl, rfl⟩, fun k x h => by simp at h⟩
  · refine ⟨_, g, 0, cap, hv, fun _ => rfl, fun h => by simp at h, fun k x hk => ?_⟩
    have := h.cells (g := g) (by rw [hv]; rfl) k (.int .i64 x) (by unfold intV; rw [List.getElem?_map, hk]; rfl)
    rw [Addr.add_lit] at this
    unfold IntC
    rw [Nat.mul_one]
    exact this
theorem Try.infoIntR : (Try.prog.info? 3).map (fun i => (i.zero, i.size, i.bytes)) = some (some (.int .i64 0), 1, 8) := by kernel_rfl
theorem chk_lens {T : List (List Ins)} {c : List Atm} (hz : ((chk T c).1 == 0) = true) : 1 ≤ T.length ∧ T.length ≤ 4 ∧ ∀ l ∈ T, l.length ≤ 12 := by
  have hs := chk_zero hz
  obtain ⟨h2, hL, _⟩ := sizeB_parts hs
  refine ⟨?_, h2, fun l hl => ?_⟩
  · unfold sizeB at hs
    simp only [Bool.and_eq_true, decide_eq_true_eq] at hs
    exact hs.1.1.1
  · obtain ⟨k, hk⟩ := List.getElem?_of_mem hl
    exact lensB_get hL hk
set_option maxRecDepth 20000 in
theorem pick_any (c : Int) (hc : -9223372036854775808 ≤ c ∧ c < 9223372036854775808) (m : Nat) (hm : 1 ≤ m ∧ m ≤ 1000) (w : World) : Calls Try.prog 12 #[.int .i64 c, .int .i64 m] w fun e w' => ∃ r : Nat, r < m ∧ e = .returned (.int .i64 r) ∧ Below w.heap.size w w' := by
  by_cases h0 : c < 0
  · obtain ⟨d, hd⟩ := Int.eq_ofNat_of_zero_le (show 0 ≤ -(c + 1) by omega)
    have e0 : decide (c < 0) = true := by simpa using h0
    have e1 : IntKind.i64.wrap (c + 1) = c + 1 := by rw [IntKind.wrap_i64]; omega
    have e2 : IntKind.i64.wrap (-(c + 1)) = (d : Int) := by rw [IntKind.wrap_i64, hd]; omega
    have er : (d : Int) % (m : Int) = ((d % m : Nat) : Int) := by simp
    have hr : d % m < m := Nat.mod_lt _ (by omega)
    have hm0 : ((m : Int) == 0) = false := by simp; omega
    generalize d % m = r at er hr
    clear hd
    go_enter Try.func12, Try.ntmps12
    go_wp2_with fail
    go_ret
    exact ⟨r, hr, ret_int er, Below.refl _ _⟩
  · obtain ⟨d, rfl⟩ := Int.eq_ofNat_of_zero_le (show 0 ≤ c by omega)
    have er : (d : Int) % (m : Int) = ((d % m : Nat) : Int) := by simp
    have hr : d % m < m := Nat.mod_lt _ (by omega)
    have hm0 : ((m : Int) == 0) = false := by simp; omega
    generalize d % m = r at er hr
    go_enter Try.func12, Try.ntmps12
    go_wp2_with fail
    go_ret
    exact ⟨r, hr, rfl, Below.refl _ _⟩

end Go.Proofs.Ytomijmikkbhgmab

namespace Go.Proofs.Ytomijmikkbhgmab

/-- The value of an event, by no more than so many steps. -/
def valN (E : List Evt) (S : Nat → Int) : Nat → Int → Int
  | 0, _ => 0
  | d + 1, i => if i < 0 then 0 else match E[i.toNat]? with
    | none => 0
    | some y => if y.kind == 0 then valN E S d (S i.toNat) else if y.ins.op == 1 then valN E S d (srcG y (E.take i.toNat) 0 (-1)) else y.ins.val

theorem valN_neg (E : List Evt) (S : Nat → Int) (d : Nat) {i : Int} (h : i < 0) : valN E S d i = 0 := by
  cases d with
  | zero => rfl
  | succ d => unfold valN; rw [if_pos h]
theorem valN_read {E : List Evt} {S : Nat → Int} {d i : Nat} {y : Evt} (h : E[i]? = some y) (hk : (y.kind == 0) = true) : valN E S (d + 1) (i : Int) = valN E S d (S i) := by
  rw [valN, if_neg (by omega), Int.toNat_natCast, h]
  simp only [hk, if_true]
theorem valN_copy {E : List Evt} {S : Nat → Int} {d i : Nat} {y : Evt} (h : E[i]? = some y) (hk : (y.kind == 0) = false) (ho : (y.ins.op == 1) = true) : valN E S (d + 1) (i : Int) = valN E S d (srcG y (E.take i) 0 (-1)) := by
  rw [valN, if_neg (by omega), Int.toNat_natCast, h]
  simp only [hk, ho, if_true, Bool.false_eq_true, if_false]
theorem valN_else {E : List Evt} {S : Nat → Int} {d i : Nat} {y : Evt} (h : E[i]? = some y) (hk : (y.kind == 0) = false) (ho : (y.ins.op == 1) = false) : valN E S (d + 1) (i : Int) = y.ins.val := by
  rw [valN, if_neg (by omega), Int.toNat_natCast, h]
  simp only [hk, ho, Bool.false_eq_true, if_false]

/-- An event of a thread, into a register: for those who look for the last Read. -/
def evtOf (thread reg : Int) : Evt := ⟨thread, 0, 0, 0, ⟨0, 0, reg, 0, 0⟩⟩

def regV (E : List Evt) (S : Nat → Int) (i r : Nat) : Int := valN E S (2 * E.length) (srcG (evtOf i r) E 0 (-1))
def locV (E : List Evt) (S : Nat → Int) (x : Exe) (j : Nat) : Int := match (x.order.getD j []).getLast? with
  | none => 0
  | some w => valN E S (2 * E.length) w
/-- What is held in the end. -/
def staL (k : Nat) (E : List Evt) (S : Nat → Int) (x : Exe) : List Int := ((List.range k).flatMap fun i => (List.range 3).map (regV E S i)) ++ (List.range 3).map (locV E S x)

theorem srcG_range (y : Evt) (E : List Evt) (i : Nat) (a : Int) (ha : a = -1 ∨ ∃ k : Nat, a = (k : Int) ∧ k < i) : srcG y E i a = -1 ∨ ∃ k : Nat, srcG y E i a = (k : Int) ∧ k < i + E.length := by
  induction E generalizing i a with
  | nil =>
    rcases ha with h | ⟨k, h1, h2⟩
    · exact .inl h
    · exact .inr ⟨k, h1, by simpa using h2⟩
  | cons z E ih =>
    rw [srcG]
    have h2 := ih (i + 1) (if z.kind == 0 && z.thread == y.thread && z.ins.reg == y.ins.reg then (i : Int) else a) (by
      split
      · exact .inr ⟨i, rfl, by omega⟩
      · rcases ha with h | ⟨k, h1, h2⟩
        · exact .inl h
        · exact .inr ⟨k, h1, by omega⟩)
    rcases h2 with h | ⟨k, h1, h2⟩
    · exact .inl h
    · exact .inr ⟨k, h1, by rw [List.length_cons]; omega⟩

end Go.Proofs.Ytomijmikkbhgmab

namespace Go.Proofs.Ytomijmikkbhgmab
open Go.RowKit

/-- From which event a Read reads, by its number. -/
def frG : List ((Nat × Evt) × Int) → Int → Int
  | [], _ => -1
  | q :: l, r => if (q.1.1 : Int) == r then q.2 else frG l r

theorem frG_hit {q : (Nat × Evt) × Int} {r : Int} (h : ((q.1.1 : Int) == r) = true) (l : List ((Nat × Evt) × Int)) : frG (q :: l) r = q.2 := by rw [frG, if_pos h]
theorem frG_mis {q : (Nat × Evt) × Int} {r : Int} (h : ((q.1.1 : Int) == r) = false) (l : List ((Nat × Evt) × Int)) : frG (q :: l) r = frG l r := by rw [frG, if_neg (by simp [h])]
theorem frG_mem (l : List ((Nat × Evt) × Int)) (r : Int) : frG l r = -1 ∨ ∃ q ∈ l, frG l r = q.2 ∧ (q.1.1 : Int) = r := by
  induction l with
  | nil => exact .inl rfl
  | cons q l ih =>
    cases h : ((q.1.1 : Int) == r)
    · rw [frG_mis h]
      rcases ih with h1 | ⟨q', h1, h2⟩
      · exact .inl h1
      · exact .inr ⟨q', List.mem_cons_of_mem _ h1, h2⟩
    · rw [frG_hit h]; exact .inr ⟨q, List.mem_cons_self .., rfl, by simpa using h⟩

/-- Numbers of events, or -1. -/
def EvI (n : Nat) (i : Int) : Prop := i = -1 ∨ ∃ k : Nat, i = (k : Int) ∧ k < n

end Go.Proofs.Ytomijmikkbhgmab

namespace Go.Proofs.Ytomijmikkbhgmab
open Go.RowKit

def cmpL : List Int → List Int → Int
  | a :: l, b :: m => if a == b then cmpL l m else a - b
  | _, _ => 0
theorem cmpL_eq {a b : Int} (h : (a == b) = true) (l m : List Int) : cmpL (a :: l) (b :: m) = cmpL l m := by rw [cmpL, if_pos h]
theorem cmpL_ne {a b : Int} (h : (a == b) = false) (l m : List Int) : cmpL (a :: l) (b :: m) = a - b := by rw [cmpL, if_neg (by simp [h])]

theorem below_drN {n : Nat} {w w' : World} (h : Below n w w') (k : Nat) : Below n w (w'.drewN k) := ⟨h.os, h.tape, h.output, h.size, h.block⟩

/-- Small numbers. -/
def Small (l : List Int) : Prop := ∀ a ∈ l, -1000 ≤ a ∧ a ≤ 1000

/-- Where an atom looks in a state. -/
def idxA (n : Nat) (a : Atm) : Nat := (if a.thread == -1 then 3 * (n : Int) + a.at' else 3 * a.thread + a.at').toNat
/-- Does the condition hold in a state? -/
def metB (n : Nat) (c : List Atm) (s : List Int) : Bool := c.all fun a => s.getD (idxA n a) 0 == a.val

/-- Atoms that may be. -/
def AtmsOk (n : Nat) (c : List Atm) : Prop := ∀ a ∈ c, atmB a n = true

theorem atms_ok {n : Nat} {c : List Atm} {i : Nat} (h : atmF c i n = none) : AtmsOk n c := by
  induction c generalizing i with
  | nil => intro a ha; cases ha
  | cons x c ih =>
    rw [atmF] at h
    cases hx : atmB x n
    · rw [hx] at h; simp at h
    · rw [hx] at h
      intro a ha
      rcases List.mem_cons.1 ha with rfl | ha
      · exact hx
      · exact ih (by simpa using h) a ha

theorem atm_range {n : Nat} {a : Atm} (h : atmB a n = true) : (a.thread = -1 ∧ 0 ≤ a.at' ∧ a.at' < 3) ∨ (0 ≤ a.thread ∧ a.thread < n ∧ 0 ≤ a.at' ∧ a.at' < 3) := by
  unfold atmB at h
  simp only [Bool.and_eq_true] at h
  by_cases ht : a.thread = -1
  · have := h.2
    rw [ht] at this
    unfold locB at this
    simp at this
    exact .inl ⟨ht, by omega⟩
  · have := h.2
    have ht' : (a.thread == -1) = false := by simpa using ht
    rw [ht'] at this
    unfold locB at this
    simp at this
    exact .inr (by omega)

end Go.Proofs.Ytomijmikkbhgmab

namespace Go.Proofs.Ytomijmikkbhgmab
open Go.RowKit

/-- A state, or nil. -/
def OptV (w : World) (u : Value) : Option (List Int) → Prop
  | none => u = .slice none 0 0
  | some l => IntAt w u l ∧ l ≠ []
def OptC (w : World) (b off : Nat) (o : Option (List Int)) : Prop := ∃ u, w.cell? ⟨b, off, none⟩ = some u ∧ OptV w u o
def OptAt (w : World) (v : Value) (L : List (Option (List Int))) : Prop := ∃ ao b off cap, SlAt w 1 OptC v L ao b off cap

theorem IntAt.drN {w : World} {v : Value} {l : List Int} (h : IntAt w v l) (n : Nat) : IntAt (w.drewN n) v l := h.keep (below_drN (Below.refl _ w) n)
theorem OptV.drewN {w : World} {u : Value} {o : Option (List Int)} (h : OptV w u o) (n : Nat) : OptV (w.drewN n) u o := by
  cases o with
  | none => exact h
  | some l => exact ⟨h.1.drN n, h.2⟩

/-- One state more: is it the least so far of those that are greater than one? -/
def lstep (than best o : Option (List Int)) : Option (List Int) := match o with
  | none => best
  | some l => if (match than with | none => false | some t => decide (cmpL l t ≤ 0)) then best else match best with
    | none => some l
    | some b => if decide (0 ≤ cmpL l b) then best else some l
def leastO (than : Option (List Int)) (best : Option (List Int)) : List (Option (List Int)) → Option (List Int)
  | [] => best
  | o :: L => leastO than (lstep than best o) L

/-- States of one length, of small numbers. -/
def StOk (n : Nat) (o : Option (List Int)) : Prop := ∀ l, o = some l → l.length = n ∧ Small l

theorem lstep_ok {n : Nat} {than best o : Option (List Int)} (h1 : StOk n best) (h2 : StOk n o) : StOk n (lstep than best o) := by
  have : lstep than best o = best ∨ lstep than best o = o := by
    unfold lstep
    cases o with
    | none => exact .inl rfl
    | some l =>
      cases than with
      | none =>
        cases best with
        | none => exact .inr rfl
        | some b =>
          simp only
          by_cases h : 0 ≤ cmpL l b <;> simp [h]
      | some t =>
        cases best with
        | none =>
          simp only
          by_cases h : cmpL l t ≤ 0 <;> simp [h]
        | some b =>
          simp only
          by_cases h : cmpL l t ≤ 0 <;> by_cases h' : 0 ≤ cmpL l b <;> simp [h, h']
  rcases this with e | e <;> rw [e] <;> assumption

theorem OptV.form {w : World} {u : Value} {l : List Int} (h : OptV w u (some l)) : ∃ a cap, u = .slice (some a) l.length cap := by
  obtain ⟨⟨ao, b, off, cap, hv, ha, _, _⟩, hne⟩ := h
  exact ⟨_, cap, by rw [hv, ha hne]⟩

end Go.Proofs.Ytomijmikkbhgmab

namespace Go.Proofs.Ytomijmikkbhgmab
open Go.RowKit

theorem srcG_yes {y z : Evt} (l : List Evt) (i : Nat) (a : Int) (h1 : (z.kind == 0) = true) (h2 : (z.thread == y.thread) = true) (h3 : (z.ins.reg == y.ins.reg) = true) : srcG y (z :: l) i a = srcG y l (i + 1) (i : Int) := by rw [srcG, h1, h2, h3]; rfl
theorem srcG_no {y z : Evt} (l : List Evt) (i : Nat) (a : Int) (h : (z.kind == 0 && z.thread == y.thread && z.ins.reg == y.ins.reg) = false) : srcG y (z :: l) i a = srcG y l (i + 1) a := by rw [srcG, h]; rfl

/-- The registers of the first i threads, and of the next one the first r. -/
def regL (E : List Evt) (S : Nat → Int) (i r : Nat) : List Int := ((List.range i).flatMap fun i => (List.range 3).map (regV E S i)) ++ (List.range r).map (regV E S i)
theorem regL_step (E : List Evt) (S : Nat → Int) (i r : Nat) : regL E S i (r + 1) = regL E S i r ++ [regV E S i r] := by unfold regL; rw [List.range_succ (n := r), List.map_append]; simp
theorem regL_next (E : List Evt) (S : Nat → Int) (i : Nat) : regL E S (i + 1) 0 = regL E S i 3 := by unfold regL; rw [List.range_succ (n := i), List.flatMap_append]; simp
theorem regL_len (E : List Evt) (S : Nat → Int) (i r : Nat) : (regL E S i r).length = 3 * i + r := by
  unfold regL
  rw [List.length_append, List.length_map, List.length_range, flat_len _ 3 (fun _ => by simp), List.length_range]; omega

theorem srcE {E : List Evt} (y : Evt) : EvI E.length (srcG y E 0 (-1)) := by
  rcases srcG_range y E 0 (-1) (.inl rfl) with h | ⟨a, h1, h2⟩
  · exact .inl h
  · exact .inr ⟨a, h1, by omega⟩

end Go.Proofs.Ytomijmikkbhgmab

namespace Go.Proofs.Ytomijmikkbhgmab
open Go.RowKit

theorem flat_allF_len (acc : List (List Int)) (os : List (List Int)) : (acc.flatMap fun a => (allF os).map fun r => a ++ r).length = acc.length * plen os := by
  rw [flat_length _ (plen os) acc (fun a _ => by rw [List.length_map, allF_len])]

/-- One read more: each way so far with each of what it may read from. -/
def grow (O : List Int) (acc : List (List Int)) : List (List Int) := acc.flatMap fun a => O.map fun y => a ++ [y]

theorem grow_take {acc : List (List Int)} {j : Nat} {a : List Int} (h : acc[j]? = some a) (O : List Int) : grow O (acc.take (j + 1)) = grow O (acc.take j) ++ O.map fun y => a ++ [y] := by
  unfold grow; rw [take_snoc h, List.flatMap_append]; simp

theorem grow_mem {O : List Int} {acc : List (List Int)} {i : Nat} (h : ∀ a ∈ acc, a.length ≤ i) : ∀ a ∈ grow O acc, a.length ≤ i + 1 := by
  intro a ha
  obtain ⟨b, hb, hx⟩ := List.mem_flatMap.1 ha
  obtain ⟨y, _, rfl⟩ := List.mem_map.1 hx
  have := h b hb
  simp; omega

theorem lst_one (w : World) (t : TypeId) : SlAt (w.alloc (.cells #[.slice none 0 0] t)) 1 LC (.slice (some ⟨w.heap.size, 0, none⟩) 1 1) [[]] (some ⟨w.heap.size, 0, none⟩) w.heap.size 0 1 :=
  ⟨rfl, fun _ => rfl, fun h => by simp at h, fun k x h => by
    match k, h with
    | 0, h => simp at h; subst h; exact ⟨.slice none 0 0, by simp, (intAt_nil _ 0).at'⟩⟩

theorem own_of_ll {w : World} {base : Nat} {V : Value} {L : List (List Int)} {vs : List Value} (h : LL w base V L vs) (n : Nat) (hn : L.length = n) : w.ownsRow base 39 1 V n vs := hn ▸ h.own

end Go.Proofs.Ytomijmikkbhgmab
