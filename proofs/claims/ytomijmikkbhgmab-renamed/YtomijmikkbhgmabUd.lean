import Derived.Test.YtomijmikkbhgmabUc
namespace Go.Proofs.Ytomijmikkbhgmab
open Go.RowKit

/-- Instructions in a row of the call's own. -/
structure RowI (B : Nat) (w : World) (V : Value) (l : List Ins) : Prop where
  own : w.ownsRow B 37 5 V l.length (l.flatMap insV)
theorem RowI.keep {B : Nat} {w w' : World} {V : Value} {l : List Ins} (h : RowI B w V l) (hb : Below w.heap.size w w') : RowI B w' V l := ⟨own_keep h.own hb⟩
theorem RowI.grow {B : Nat} {w w' : World} {V : Value} {l : List Ins} {row : Option Nat} (h : RowI B w V l) (hg : w.grownBy w' row) (hne : ∀ k, V.ownBlock = some k → row ≠ some k) : RowI B w' V l := ⟨own_other h.own (fun b hb => hg.block b (h.own.lt b hb).2 (fun e => hne b hb e.symm))⟩
theorem RowI.lit {B : Nat} {w : World} (x : Ins) (hB : B ≤ w.heap.size) : RowI B (w.alloc (.cells (insV x).toArray 37)) (.slice (some ⟨w.heap.size, 0, none⟩) 1 1) [x] :=
  ⟨by have := World.ownsRow_lit (base := B) (e := 37) (size := 5) w (insV x).toArray 1 hB (by unfold maxLen; omega) (by simp [insV]); simpa [insV] using this⟩
theorem RowI.more {B : Nat} {w' : World} {V' : Value} {l m : List Ins} (hown : w'.ownsRow B 37 5 V' (l.length + m.length) (l.flatMap insV ++ m.flatMap insV)) : RowI B w' V' (l ++ m) := ⟨by rw [List.flatMap_append, List.length_append]; exact hown⟩
theorem RowI.some {B : Nat} {w : World} {V : Value} {l : List Ins} (h : RowI B w V l) (hl : l ≠ []) : ∃ g cap, V = .slice (some ⟨g, 0, none⟩) l.length cap ∧ B ≤ g ∧ g < w.heap.size := by
  rcases h.own.2 with ⟨_, h0⟩ | ⟨g, cap, cur, hv, hg, hh, _⟩
  · exact absurd (List.eq_nil_of_length_eq_zero h0) hl
  · exact ⟨g, cap, hv, hg, (Array.getElem?_eq_some_iff.1 hh).1⟩

theorem get4 {α β : Type} {P : α → β → Prop} {a b c d : α} {x y z u : β} (h1 : P a x) (h2 : P b y) (h3 : P c z) (h4 : P d u) : ∀ (i : Nat) (l : β), [x, y, z, u][i]? = some l → ∃ v, [a, b, c, d][i]? = some v ∧ P v l := by
  intro i l hl
  match i, hl with
  | 0, hl => simp at hl; subst hl; exact ⟨a, rfl, h1⟩
  | 1, hl => simp at hl; subst hl; exact ⟨b, rfl, h2⟩
  | 2, hl => simp at hl; subst hl; exact ⟨c, rfl, h3⟩
  | 3, hl => simp at hl; subst hl; exact ⟨d, rfl, h4⟩
  | i + 4, hl => simp at hl

set_option maxRecDepth 20000 in
set_option maxHeartbeats 8000000 in
theorem buffers_any (bt : List Ins) (hbt : bt.length ≤ 10) (vb : Value) (g : Nat) (w : World) (hvb : InsAt w vb bt) : Calls Try.prog 35 #[vb, .int .i64 g] w (KnO (bufK bt g) w) := by
  have HKO : Hid (∀ e w', (∃ vt vc, e = .returned (.agg #[vt, .bool false, vc, .int .i64 g, .int .i64 3]) ∧ TestAt w' (.agg #[vt, .bool false, vc]) (bufK bt g).T false (bufK bt g).c vt vc ∧ Below w.heap.size w w') → KnO (bufK bt g) w e w') := fun _ _ h => h
  obtain ⟨i1, hi, hz0, hz1, hz3⟩ := info_parts Try.infoInstr
  have HI : Hid (Try.prog.info? 37 = some i1 ∧ i1.zero = some (.agg #[.int .i64 0, .int .i64 0, .int .i64 0, .int .i64 0, .int .i64 0]) ∧ i1.size = 5 ∧ i1.bytes = 40) := ⟨hi, hz0, hz1, hz3⟩
  clear hi hz0 hz1 hz3
  obtain ⟨_, aob, bb, offb, capb, hsb⟩ := hvb
  have hvf := hsb.hv
  have hnb := hsb.hn
  subst hvf
  have HVB : Hid (∀ w', Below w.heap.size w w' → ∀ ad, aob = some ad → ∀ j u, (bt.flatMap insV)[j]? = some u → w'.cell? (ad.add j) = some u) := fun w' hb => ins_cells (hsb.keep insC_keeps hb)
  have HNB : Hid (aob = none → bt.length = 0 ∧ capb = 0) := fun h => ⟨by rw [(hnb h).1]; rfl, (hnb h).2⟩
  clear hsb hnb
  go_enter Try.func35, Try.ntmps35
  go_wp2_with fail
  have hK1 := knB_new w
  have hba := below_alloc w (.cells #[.slice none 0 0, .bool false, .slice none 0 0, .int .i64 0, .int .i64 0] 56)
  have hs1 : (w.alloc (.cells #[.slice none 0 0, .bool false, .slice none 0 0, .int .i64 0, .int .i64 0] 56)).heap.size = w.heap.size + 1 := by simp
  generalize w.alloc (.cells #[.slice none 0 0, .bool false, .slice none 0 0, .int .i64 0, .int .i64 0] 56) = w1 at hK1 hba hs1 ⊢
  refine (store_any _ _ _ _).mono ?_
  rintro e w2 ⟨rfl, hcA⟩
  have hbw2 := hcA
  have hsw2 := hbw2.size
  have hLA : RowI (w.heap.size + 1) (w2.alloc (.cells #[.int .i64 0, .int .i64 0, .int .i64 0, .int .i64 1, .int .i64 0] 37)) (.slice (some ⟨w2.heap.size, 0, none⟩) 1 1) [stoI 0 1 0] := RowI.lit (stoI 0 1 0) (by omega)
  have hblA := below_more (below_more hba hbw2) (below_alloc w2 (.cells #[.int .i64 0, .int .i64 0, .int .i64 0, .int .i64 1, .int .i64 0] 37))
  go_wp2_with (at_builtin; refine append_new _ rfl _ _ 34 rfl (w.heap.size + 1) 37 i1 (.agg #[.int .i64 0, .int .i64 0, .int .i64 0, .int .i64 0, .int .i64 0]) 5 40 Try.underlying34 HI.out.1 HI.out.2.1 HI.out.2.2.1 HI.out.2.2.2 rfl (by decide) (.slice (some ⟨w2.heap.size, 0, none⟩) 1 1) 1 ([stoI 0 1 0].flatMap insV) rfl hLA.own aob bt.length capb (bt.flatMap insV) rfl HNB.out (by rw [flat_len insV 5 (fun _ => rfl)]) (HVB.out _ hblA) (ins_one bt) (by unfold maxLen; omega) (by omega) (by simp; omega) ?_)
  intro VA wa hownA hgrowA hapA
  have rA : RowI (w.heap.size + 1) wa VA ([stoI 0 1 0] ++ bt) := RowI.more hownA
  have hbwa : Below w1.heap.size w1 wa := Below.grown (hbw2.alloc hsw2 _) hgrowA (by simp; omega) (fun kk e => by
    have e2 : w2.heap.size = kk := by simpa [Value.ownBlock] using e
    omega)
  obtain ⟨ga, ca, hfA, hga1, hga2⟩ := rA.some (by simp)
  subst hfA
  generalize hnA : ([stoI 0 1 0] ++ bt).length = na at rA hownA hapA ⊢
  have HNA : Hid (([stoI 0 1 0] ++ bt).length = na) := hnA
  have hleA : na ≤ 11 := by rw [← hnA]; simp; omega
  clear hownA hgrowA hapA hLA hblA hcA hnA hbw2 hsw2
  go_wp2_with fail
  refine (store_any _ _ _ _).mono ?_
  rintro e w3 ⟨rfl, hcB⟩
  have hbw3 := below_more hbwa hcB
  have rA3 := rA.keep hcB
  have hsw3 := hbw3.size
  have hgA3 : ga < w3.heap.size := Nat.lt_of_lt_of_le hga2 hcB.size
  have hLB : RowI (w.heap.size + 1) (w3.alloc (.cells #[.int .i64 0, .int .i64 1, .int .i64 0, .int .i64 1, .int .i64 0] 37)) (.slice (some ⟨w3.heap.size, 0, none⟩) 1 1) [stoI 1 1 0] := RowI.lit (stoI 1 1 0) (by omega)
  have hblB := below_more (below_more hba hbw3) (below_alloc w3 (.cells #[.int .i64 0, .int .i64 1, .int .i64 0, .int .i64 1, .int .i64 0] 37))
  go_wp2_with (at_builtin; refine append_new _ rfl _ _ 34 rfl (w.heap.size + 1) 37 i1 (.agg #[.int .i64 0, .int .i64 0, .int .i64 0, .int .i64 0, .int .i64 0]) 5 40 Try.underlying34 HI.out.1 HI.out.2.1 HI.out.2.2.1 HI.out.2.2.2 rfl (by decide) (.slice (some ⟨w3.heap.size, 0, none⟩) 1 1) 1 ([stoI 1 1 0].flatMap insV) rfl hLB.own aob bt.length capb (bt.flatMap insV) rfl HNB.out (by rw [flat_len insV 5 (fun _ => rfl)]) (HVB.out _ hblB) (ins_one bt) (by unfold maxLen; omega) (by omega) (by simp; omega) ?_)
  intro VB wb hownB hgrowB hapB
  have rB : RowI (w.heap.size + 1) wb VB ([stoI 1 1 0] ++ bt) := RowI.more hownB
  have hbwb : Below w1.heap.size w1 wb := Below.grown (hbw3.alloc hsw3 _) hgrowB (by simp; omega) (fun kk e => by
    have e2 : w3.heap.size = kk := by simpa [Value.ownBlock] using e
    omega)
  obtain ⟨gb, cb, hfB, hgb1, hgb2⟩ := rB.some (by simp)
  subst hfB
  generalize hnB : ([stoI 1 1 0] ++ bt).length = nb at rB hownB hapB ⊢
  have HNB : Hid (([stoI 1 1 0] ++ bt).length = nb) := hnB
  have hleB : nb ≤ 11 := by rw [← hnB]; simp; omega
  have hdAB : gb ≠ ga := fun e => by
    rcases hapB gb rfl with h | h
    · have h2 : w3.heap.size = gb := by simpa [Value.ownBlock] using h
      omega
    · first | omega | (simp at h; omega)
  have rA4 : RowI (w.heap.size + 1) wb (.slice (some ⟨ga, 0, none⟩) na ca) ([stoI 0 1 0] ++ bt) := (rA3.keep (below_alloc w3 (.cells #[.int .i64 0, .int .i64 1, .int .i64 0, .int .i64 1, .int .i64 0] 37))).grow hgrowB (fun k hk e => by
    have h1 : ga = k := by simpa [Value.ownBlock] using hk
    have h2 : w3.heap.size = k := by simpa [Value.ownBlock] using e
    omega)
  have hgA4 : ga < wb.heap.size := by have := (rA4.own.lt ga rfl).2; exact this
  clear hownB hgrowB hapB hLB hblB hcB hnB rA rA3 hga2 hgA3 hbw3 hsw3 hbwa
  go_wp2_with fail
  refine (load_any _ _ _ _).mono ?_
  rintro e w4 ⟨rfl, hc⟩
  have hbw4 := below_more hbwb hc
  have hsw4 := hbw4.size
  have q1 := rA4.keep hc
  have q2 := rB.keep hc
  have q3 := q1.keep (below_alloc w4 (.cells #[.int .i64 2, .int .i64 1, .int .i64 0, .int .i64 0, .int .i64 0] 37))
  go_wp2_with (at_builtin; refine append_new _ rfl _ _ 34 rfl (w.heap.size + 1) 37 i1 (.agg #[.int .i64 0, .int .i64 0, .int .i64 0, .int .i64 0, .int .i64 0]) 5 40 Try.underlying34 HI.out.1 HI.out.2.1 HI.out.2.2.1 HI.out.2.2.2 rfl (by decide) (.slice (some ⟨ga, 0, none⟩) na ca) na (([stoI 0 1 0] ++ bt).flatMap insV) rfl (by have := q3.own; rw [HNA.out] at this; exact this) (some ⟨w4.heap.size, 0, none⟩) 1 1 ([lodI 0 1 0].flatMap insV) rfl (fun h => by cases h) rfl (fun ad had => by cases had; exact new_many rfl) (ins_one [lodI 0 1 0]) (by unfold maxLen; omega) (by omega) (by simp; omega) ?_)
  intro V2A wc hown hgrow hap
  have r2A : RowI (w.heap.size + 1) wc V2A (([stoI 0 1 0] ++ bt) ++ [lodI 0 1 0]) := RowI.more (by rw [HNA.out]; exact hown)
  have q4 := (q2.keep (below_alloc w4 (.cells #[.int .i64 2, .int .i64 1, .int .i64 0, .int .i64 0, .int .i64 0] 37))).grow hgrow (fun k hk e => by
    have h1 : gb = k := by simpa [Value.ownBlock] using hk
    have h2 : ga = k := by simpa [Value.ownBlock] using e
    omega)
  obtain ⟨g2a, c2a, hf, _, hg2a⟩ := r2A.some (by simp)
  subst hf
  have hd2 : gb ≠ g2a := fun e => by
    have h0 := (q2.own.lt gb rfl).2
    rcases hap g2a rfl with h | h
    · have h2 : ga = g2a := by simpa [Value.ownBlock] using h
      omega
    · first | omega | (simp at h; omega)
  have hn2 : (([stoI 0 1 0] ++ bt) ++ [lodI 0 1 0]).length = na + 1 := by rw [List.length_append, HNA.out]; rfl
  rw [hn2] at r2A
  rw [hn2]
  have hbwc : Below w1.heap.size w1 wc := Below.grown (hbw4.alloc hsw4 _) hgrow (by simp; omega) (fun kk e => by
    have e2 : ga = kk := by simpa [Value.ownBlock] using e
    have h9 := (q3.own.lt ga rfl).1
    have h8 := hs1
    omega)
  have rB5 := q4
  have rA6 := r2A
  clear q1 q2 q3 q4 hown hgrow hap hc hn2 hbw4 hsw4 hbwb rA4 rB r2A
  go_wp2_with fail
  refine (load_any _ _ _ _).mono ?_
  rintro e w5 ⟨rfl, hc⟩
  have hbw5 := below_more hbwc hc
  have hsw5 := hbw5.size
  have q1 := rB5.keep hc
  have q2 := rA6.keep hc
  have q3 := q1.keep (below_alloc w5 (.cells #[.int .i64 2, .int .i64 0, .int .i64 0, .int .i64 0, .int .i64 0] 37))
  go_wp2_with (at_builtin; refine append_new _ rfl _ _ 34 rfl (w.heap.size + 1) 37 i1 (.agg #[.int .i64 0, .int .i64 0, .int .i64 0, .int .i64 0, .int .i64 0]) 5 40 Try.underlying34 HI.out.1 HI.out.2.1 HI.out.2.2.1 HI.out.2.2.2 rfl (by decide) (.slice (some ⟨gb, 0, none⟩) nb cb) nb (([stoI 1 1 0] ++ bt).flatMap insV) rfl (by have := q3.own; rw [HNB.out] at this; exact this) (some ⟨w5.heap.size, 0, none⟩) 1 1 ([lodI 0 0 0].flatMap insV) rfl (fun h => by cases h) rfl (fun ad had => by cases had; exact new_many rfl) (ins_one [lodI 0 0 0]) (by unfold maxLen; omega) (by omega) (by simp; omega) ?_)
  intro V2B wd hown hgrow hap
  have r2B : RowI (w.heap.size + 1) wd V2B (([stoI 1 1 0] ++ bt) ++ [lodI 0 0 0]) := RowI.more (by rw [HNB.out]; exact hown)
  have q4 := (q2.keep (below_alloc w5 (.cells #[.int .i64 2, .int .i64 0, .int .i64 0, .int .i64 0, .int .i64 0] 37))).grow hgrow (fun k hk e => by
    have h1 : g2a = k := by simpa [Value.ownBlock] using hk
    have h2 : gb = k := by simpa [Value.ownBlock] using e
    omega)
  obtain ⟨g2b, c2b, hf, _, hg2b⟩ := r2B.some (by simp)
  subst hf
  have hn2 : (([stoI 1 1 0] ++ bt) ++ [lodI 0 0 0]).length = nb + 1 := by rw [List.length_append, HNB.out]; rfl
  rw [hn2] at r2B
  rw [hn2]
  have hbwd : Below w1.heap.size w1 wd := Below.grown (hbw5.alloc hsw5 _) hgrow (by simp; omega) (fun kk e => by
    have e2 : gb = kk := by simpa [Value.ownBlock] using e
    have h9 := (q3.own.lt gb rfl).1
    have h8 := hs1
    omega)
  have rA7 := q4
  clear q1 q2 q3 q4 hown hgrow hap hc hn2 hbw5 hsw5 hbwc rB5 rA6
  have hIA : InsS (w.heap.size + 1) wd (.slice (some ⟨g2a, 0, none⟩) (na + 1) c2a) (([stoI 0 1 0] ++ bt) ++ [lodI 0 1 0]) := InsS.of_own (by simp; omega) rA7.own (Nat.le_refl _)
  have hIB : InsS (w.heap.size + 1) wd (.slice (some ⟨g2b, 0, none⟩) (nb + 1) c2b) (([stoI 1 1 0] ++ bt) ++ [lodI 0 0 0]) := InsS.of_own (by simp; omega) r2B.own (Nat.le_refl _)
  clear rA7 r2B
  generalize na + 1 = ma at hIA ⊢
  generalize nb + 1 = mb at hIB ⊢
  have hs6 := hbwd.size
  have hT : ThrS (w.heap.size + 1) (wd.alloc (.cells #[.slice (some ⟨g2a, 0, none⟩) ma c2a, .slice (some ⟨g2b, 0, none⟩) mb c2b] 34)) (.slice (some ⟨wd.heap.size, 0, none⟩) 2 2) (bufK bt g).T := ThrS.lit (us := [.slice (some ⟨g2a, 0, none⟩) ma c2a, .slice (some ⟨g2b, 0, none⟩) mb c2b]) (Ls := [([stoI 0 1 0] ++ bt) ++ [lodI 0 1 0], ([stoI 1 1 0] ++ bt) ++ [lodI 0 0 0]]) (by omega) rfl (by simp) (get2 hIA hIB)
  have hC : AtmS (w.heap.size + 1) ((wd.alloc (.cells #[.slice (some ⟨g2a, 0, none⟩) ma c2a, .slice (some ⟨g2b, 0, none⟩) mb c2b] 34)).alloc (.cells #[.int .i64 0, .int .i64 0, .int .i64 0, .int .i64 1, .int .i64 0, .int .i64 0] 101)) (.slice (some ⟨wd.heap.size + 1, 0, none⟩) 2 2) (bufK bt g).c := by
    have := AtmS.lit (B := w.heap.size + 1) (w := wd.alloc (.cells #[.slice (some ⟨g2a, 0, none⟩) ma c2a, .slice (some ⟨g2b, 0, none⟩) mb c2b] 34)) (c := [⟨0, 0, 0⟩, ⟨1, 0, 0⟩]) (t := 101) (by simp; omega) (by simp)
    rw [World.size_alloc] at this
    exact this
  have hb8 := below_two wd (.cells #[.slice (some ⟨g2a, 0, none⟩) ma c2a, .slice (some ⟨g2b, 0, none⟩) mb c2b] 34) (.cells #[.int .i64 0, .int .i64 0, .int .i64 0, .int .i64 1, .int .i64 0, .int .i64 0] 101)
  have hT8 := hT.keep (below_alloc (wd.alloc (.cells #[.slice (some ⟨g2a, 0, none⟩) ma c2a, .slice (some ⟨g2b, 0, none⟩) mb c2b] 34)) (.cells #[.int .i64 0, .int .i64 0, .int .i64 0, .int .i64 1, .int .i64 0, .int .i64 0] 101))
  go_upto_region 6 with fail
  generalize hw8 : (wd.alloc (.cells #[.slice (some ⟨g2a, 0, none⟩) ma c2a, .slice (some ⟨g2b, 0, none⟩) mb c2b] 34)).alloc (.cells #[.int .i64 0, .int .i64 0, .int .i64 0, .int .i64 1, .int .i64 0, .int .i64 0] 101) = v8 at hC hb8 hT8 ⊢
  have hz8 : v8.heap.size = wd.heap.size + 1 + 1 := by rw [← hw8]; simp
  rw [← hz8]
  generalize wd.heap.size = B6 at hT8 hC ⊢
  have hb18 := below_more hbwd hb8
  have hbx := below_alloc v8 (.cells #[.slice (some ⟨B6, 0, none⟩) 2 2, .bool false, .slice (some ⟨B6 + 1, 0, none⟩) 2 2] 25)
  have x0 : (v8.alloc (.cells #[.slice (some ⟨B6, 0, none⟩) 2 2, .bool false, .slice (some ⟨B6 + 1, 0, none⟩) 2 2] 25)).cell? ⟨v8.heap.size, 0, none⟩ = some (.slice (some ⟨B6, 0, none⟩) 2 2) := by simp
  have x1 : (v8.alloc (.cells #[.slice (some ⟨B6, 0, none⟩) 2 2, .bool false, .slice (some ⟨B6 + 1, 0, none⟩) 2 2] 25)).cell? ⟨v8.heap.size, 1, none⟩ = some (.bool false) := by simp
  have x2 : (v8.alloc (.cells #[.slice (some ⟨B6, 0, none⟩) 2 2, .bool false, .slice (some ⟨B6 + 1, 0, none⟩) 2 2] 25)).cell? ⟨v8.heap.size, 2, none⟩ = some (.slice (some ⟨B6 + 1, 0, none⟩) 2 2) := by simp
  have hT9 := hT8.keep hbx
  have hC9 := hC.keep hbx
  have hb19 := below_more hb18 hbx
  generalize v8.alloc (.cells #[.slice (some ⟨B6, 0, none⟩) 2 2, .bool false, .slice (some ⟨B6 + 1, 0, none⟩) 2 2] 25) = v9 at hbx x0 x1 x2 hT9 hC9 hb19 ⊢
  generalize v8.heap.size = B8 at x0 x1 x2 ⊢
  have HTC : Hid (ThrS (w.heap.size + 1) v9 (.slice (some ⟨B6, 0, none⟩) 2 2) (bufK bt g).T ∧ AtmS (w.heap.size + 1) v9 (.slice (some ⟨B6 + 1, 0, none⟩) 2 2) (bufK bt g).c) := ⟨hT9, hC9⟩
  obtain ⟨c0, c1, c2, c3, c4, f0, f1, f2, f3, f4⟩ := hK1.keep hb19
  have hbw9 := below_more hba hb19
  clear hT8 hC hb8 hT hIA hIB hbwd hw8 hz8 hb18 hbx hT9 hC9 hb19 hs6 hK1
  go_wp2_with fail
  refine bodyPost_ret (v := .agg #[.slice (some ⟨B6, 0, none⟩) 2 2, .bool false, .slice (some ⟨B6 + 1, 0, none⟩) 2 2, .int .i64 g, .int .i64 3]) (by simp [results, Try.results35, go_sem, *]) rfl (HKO.out _ _ ⟨_, _, rfl, test_mk (HTC.out.1 _ ?_) (HTC.out.2 _ ?_), ?_⟩)
  · repeat (refine Same.set ?_ (by omega) _)
    exact Same.refl _ _
  · repeat (refine Same.set ?_ (by omega) _)
    exact Same.refl _ _
  · repeat (refine Below.setCell ?_ (by first | (simp; done) | (simp; omega) | omega) _)
    exact hbw9

set_option maxRecDepth 20000 in
set_option maxHeartbeats 8000000 in
theorem apart_any (bt : List Ins) (hbt : bt.length ≤ 10) (vb : Value) (g : Nat) (w : World) (hvb : InsAt w vb bt) : Calls Try.prog 38 #[vb, .int .i64 g] w (KnO (apaK bt g) w) := by
  have HKO : Hid (∀ e w', (∃ vt vc, e = .returned (.agg #[vt, .bool false, vc, .int .i64 g, .int .i64 15]) ∧ TestAt w' (.agg #[vt, .bool false, vc]) (apaK bt g).T false (apaK bt g).c vt vc ∧ Below w.heap.size w w') → KnO (apaK bt g) w e w') := fun _ _ h => h
  obtain ⟨i1, hi, hz0, hz1, hz3⟩ := info_parts Try.infoInstr
  have HI : Hid (Try.prog.info? 37 = some i1 ∧ i1.zero = some (.agg #[.int .i64 0, .int .i64 0, .int .i64 0, .int .i64 0, .int .i64 0]) ∧ i1.size = 5 ∧ i1.bytes = 40) := ⟨hi, hz0, hz1, hz3⟩
  clear hi hz0 hz1 hz3
  obtain ⟨_, aob, bb, offb, capb, hsb⟩ := hvb
  have hvf := hsb.hv
  have hnb := hsb.hn
  subst hvf
  have HVB : Hid (∀ w', Below w.heap.size w w' → ∀ ad, aob = some ad → ∀ j u, (bt.flatMap insV)[j]? = some u → w'.cell? (ad.add j) = some u) := fun w' hb => ins_cells (hsb.keep insC_keeps hb)
  have HNB : Hid (aob = none → bt.length = 0 ∧ capb = 0) := fun h => ⟨by rw [(hnb h).1]; rfl, (hnb h).2⟩
  clear hsb hnb
  go_enter Try.func38, Try.ntmps38
  go_wp2_with fail
  have hK1 := knB_new w
  have hba := below_alloc w (.cells #[.slice none 0 0, .bool false, .slice none 0 0, .int .i64 0, .int .i64 0] 56)
  have hs1 : (w.alloc (.cells #[.slice none 0 0, .bool false, .slice none 0 0, .int .i64 0, .int .i64 0] 56)).heap.size = w.heap.size + 1 := by simp
  generalize w.alloc (.cells #[.slice none 0 0, .bool false, .slice none 0 0, .int .i64 0, .int .i64 0] 56) = w1 at hK1 hba hs1 ⊢
  refine (load_any _ _ _ _).mono ?_
  rintro e w2 ⟨rfl, hcA⟩
  have hbw2 := hcA
  have hsw2 := hbw2.size
  have hLA : RowI (w.heap.size + 1) (w2.alloc (.cells #[.int .i64 2, .int .i64 0, .int .i64 0, .int .i64 0, .int .i64 0] 37)) (.slice (some ⟨w2.heap.size, 0, none⟩) 1 1) [lodI 0 0 0] := RowI.lit (lodI 0 0 0) (by omega)
  have hblA := below_more (below_more hba hbw2) (below_alloc w2 (.cells #[.int .i64 2, .int .i64 0, .int .i64 0, .int .i64 0, .int .i64 0] 37))
  go_wp2_with (at_builtin; refine append_new _ rfl _ _ 34 rfl (w.heap.size + 1) 37 i1 (.agg #[.int .i64 0, .int .i64 0, .int .i64 0, .int .i64 0, .int .i64 0]) 5 40 Try.underlying34 HI.out.1 HI.out.2.1 HI.out.2.2.1 HI.out.2.2.2 rfl (by decide) (.slice (some ⟨w2.heap.size, 0, none⟩) 1 1) 1 ([lodI 0 0 0].flatMap insV) rfl hLA.own aob bt.length capb (bt.flatMap insV) rfl HNB.out (by rw [flat_len insV 5 (fun _ => rfl)]) (HVB.out _ hblA) (ins_one bt) (by unfold maxLen; omega) (by omega) (by simp; omega) ?_)
  intro VA wa hownA hgrowA hapA
  have rA : RowI (w.heap.size + 1) wa VA ([lodI 0 0 0] ++ bt) := RowI.more hownA
  have hbwa : Below w1.heap.size w1 wa := Below.grown (hbw2.alloc hsw2 _) hgrowA (by simp; omega) (fun kk e => by
    have e2 : w2.heap.size = kk := by simpa [Value.ownBlock] using e
    omega)
  obtain ⟨ga, ca, hfA, hga1, hga2⟩ := rA.some (by simp)
  subst hfA
  generalize hnA : ([lodI 0 0 0] ++ bt).length = na at rA hownA hapA ⊢
  have HNA : Hid (([lodI 0 0 0] ++ bt).length = na) := hnA
  have hleA : na ≤ 11 := by rw [← hnA]; simp; omega
  clear hownA hgrowA hapA hLA hblA hcA hnA hbw2 hsw2
  go_wp2_with fail
  refine (load_any _ _ _ _).mono ?_
  rintro e w3 ⟨rfl, hcB⟩
  have hbw3 := below_more hbwa hcB
  have rA3 := rA.keep hcB
  have hsw3 := hbw3.size
  have hgA3 : ga < w3.heap.size := Nat.lt_of_lt_of_le hga2 hcB.size
  have hLB : RowI (w.heap.size + 1) (w3.alloc (.cells #[.int .i64 2, .int .i64 1, .int .i64 0, .int .i64 0, .int .i64 0] 37)) (.slice (some ⟨w3.heap.size, 0, none⟩) 1 1) [lodI 0 1 0] := RowI.lit (lodI 0 1 0) (by omega)
  have hblB := below_more (below_more hba hbw3) (below_alloc w3 (.cells #[.int .i64 2, .int .i64 1, .int .i64 0, .int .i64 0, .int .i64 0] 37))
  go_wp2_with (at_builtin; refine append_new _ rfl _ _ 34 rfl (w.heap.size + 1) 37 i1 (.agg #[.int .i64 0, .int .i64 0, .int .i64 0, .int .i64 0, .int .i64 0]) 5 40 Try.underlying34 HI.out.1 HI.out.2.1 HI.out.2.2.1 HI.out.2.2.2 rfl (by decide) (.slice (some ⟨w3.heap.size, 0, none⟩) 1 1) 1 ([lodI 0 1 0].flatMap insV) rfl hLB.own aob bt.length capb (bt.flatMap insV) rfl HNB.out (by rw [flat_len insV 5 (fun _ => rfl)]) (HVB.out _ hblB) (ins_one bt) (by unfold maxLen; omega) (by omega) (by simp; omega) ?_)
  intro VB wb hownB hgrowB hapB
  have rB : RowI (w.heap.size + 1) wb VB ([lodI 0 1 0] ++ bt) := RowI.more hownB
  have hbwb : Below w1.heap.size w1 wb := Below.grown (hbw3.alloc hsw3 _) hgrowB (by simp; omega) (fun kk e => by
    have e2 : w3.heap.size = kk := by simpa [Value.ownBlock] using e
    omega)
  obtain ⟨gb, cb, hfB, hgb1, hgb2⟩ := rB.some (by simp)
  subst hfB
  generalize hnB : ([lodI 0 1 0] ++ bt).length = nb at rB hownB hapB ⊢
  have HNB : Hid (([lodI 0 1 0] ++ bt).length = nb) := hnB
  have hleB : nb ≤ 11 := by rw [← hnB]; simp; omega
  have hdAB : gb ≠ ga := fun e => by
    rcases hapB gb rfl with h | h
    · have h2 : w3.heap.size = gb := by simpa [Value.ownBlock] using h
      omega
    · first | omega | (simp at h; omega)
  have rA4 : RowI (w.heap.size + 1) wb (.slice (some ⟨ga, 0, none⟩) na ca) ([lodI 0 0 0] ++ bt) := (rA3.keep (below_alloc w3 (.cells #[.int .i64 2, .int .i64 1, .int .i64 0, .int .i64 0, .int .i64 0] 37))).grow hgrowB (fun k hk e => by
    have h1 : ga = k := by simpa [Value.ownBlock] using hk
    have h2 : w3.heap.size = k := by simpa [Value.ownBlock] using e
    omega)
  have hgA4 : ga < wb.heap.size := by have := (rA4.own.lt ga rfl).2; exact this
  clear hownB hgrowB hapB hLB hblB hcB hnB rA rA3 hga2 hgA3 hbw3 hsw3 hbwa
  go_wp2_with fail
  refine (load_any _ _ _ _).mono ?_
  rintro e w4 ⟨rfl, hc⟩
  have hbw4 := below_more hbwb hc
  have hsw4 := hbw4.size
  have q1 := rA4.keep hc
  have q2 := rB.keep hc
  have q3 := q1.keep (below_alloc w4 (.cells #[.int .i64 2, .int .i64 1, .int .i64 1, .int .i64 0, .int .i64 0] 37))
  go_wp2_with (at_builtin; refine append_new _ rfl _ _ 34 rfl (w.heap.size + 1) 37 i1 (.agg #[.int .i64 0, .int .i64 0, .int .i64 0, .int .i64 0, .int .i64 0]) 5 40 Try.underlying34 HI.out.1 HI.out.2.1 HI.out.2.2.1 HI.out.2.2.2 rfl (by decide) (.slice (some ⟨ga, 0, none⟩) na ca) na (([lodI 0 0 0] ++ bt).flatMap insV) rfl (by have := q3.own; rw [HNA.out] at this; exact this) (some ⟨w4.heap.size, 0, none⟩) 1 1 ([lodI 1 1 0].flatMap insV) rfl (fun h => by cases h) rfl (fun ad had => by cases had; exact new_many rfl) (ins_one [lodI 1 1 0]) (by unfold maxLen; omega) (by omega) (by simp; omega) ?_)
  intro V2A wc hown hgrow hap
  have r2A : RowI (w.heap.size + 1) wc V2A (([lodI 0 0 0] ++ bt) ++ [lodI 1 1 0]) := RowI.more (by rw [HNA.out]; exact hown)
  have q4 := (q2.keep (below_alloc w4 (.cells #[.int .i64 2, .int .i64 1, .int .i64 1, .int .i64 0, .int .i64 0] 37))).grow hgrow (fun k hk e => by
    have h1 : gb = k := by simpa [Value.ownBlock] using hk
    have h2 : ga = k := by simpa [Value.ownBlock] using e
    omega)
  obtain ⟨g2a, c2a, hf, _, hg2a⟩ := r2A.some (by simp)
  subst hf
  have hd2 : gb ≠ g2a := fun e => by
    have h0 := (q2.own.lt gb rfl).2
    rcases hap g2a rfl with h | h
    · have h2 : ga = g2a := by simpa [Value.ownBlock] using h
      omega
    · first | omega | (simp at h; omega)
  have hn2 : (([lodI 0 0 0] ++ bt) ++ [lodI 1 1 0]).length = na + 1 := by rw [List.length_append, HNA.out]; rfl
  rw [hn2] at r2A
  rw [hn2]
  have hbwc : Below w1.heap.size w1 wc := Below.grown (hbw4.alloc hsw4 _) hgrow (by simp; omega) (fun kk e => by
    have e2 : ga = kk := by simpa [Value.ownBlock] using e
    have h9 := (q3.own.lt ga rfl).1
    have h8 := hs1
    omega)
  have rB5 := q4
  have rA6 := r2A
  clear q1 q2 q3 q4 hown hgrow hap hc hn2 hbw4 hsw4 hbwb rA4 rB r2A
  go_wp2_with fail
  refine (load_any _ _ _ _).mono ?_
  rintro e w5 ⟨rfl, hc⟩
  have hbw5 := below_more hbwc hc
  have hsw5 := hbw5.size
  have q1 := rB5.keep hc
  have q2 := rA6.keep hc
  have q3 := q1.keep (below_alloc w5 (.cells #[.int .i64 2, .int .i64 0, .int .i64 1, .int .i64 0, .int .i64 0] 37))
  go_wp2_with (at_builtin; refine append_new _ rfl _ _ 34 rfl (w.heap.size + 1) 37 i1 (.agg #[.int .i64 0, .int .i64 0, .int .i64 0, .int .i64 0, .int .i64 0]) 5 40 Try.underlying34 HI.out.1 HI.out.2.1 HI.out.2.2.1 HI.out.2.2.2 rfl (by decide) (.slice (some ⟨gb, 0, none⟩) nb cb) nb (([lodI 0 1 0] ++ bt).flatMap insV) rfl (by have := q3.own; rw [HNB.out] at this; exact this) (some ⟨w5.heap.size, 0, none⟩) 1 1 ([lodI 1 0 0].flatMap insV) rfl (fun h => by cases h) rfl (fun ad had => by cases had; exact new_many rfl) (ins_one [lodI 1 0 0]) (by unfold maxLen; omega) (by omega) (by simp; omega) ?_)
  intro V2B wd hown hgrow hap
  have r2B : RowI (w.heap.size + 1) wd V2B (([lodI 0 1 0] ++ bt) ++ [lodI 1 0 0]) := RowI.more (by rw [HNB.out]; exact hown)
  have q4 := (q2.keep (below_alloc w5 (.cells #[.int .i64 2, .int .i64 0, .int .i64 1, .int .i64 0, .int .i64 0] 37))).grow hgrow (fun k hk e => by
    have h1 : g2a = k := by simpa [Value.ownBlock] using hk
    have h2 : gb = k := by simpa [Value.ownBlock] using e
    omega)
  obtain ⟨g2b, c2b, hf, _, hg2b⟩ := r2B.some (by simp)
  subst hf
  have hn2 : (([lodI 0 1 0] ++ bt) ++ [lodI 1 0 0]).length = nb + 1 := by rw [List.length_append, HNB.out]; rfl
  rw [hn2] at r2B
  rw [hn2]
  have hbwd : Below w1.heap.size w1 wd := Below.grown (hbw5.alloc hsw5 _) hgrow (by simp; omega) (fun kk e => by
    have e2 : gb = kk := by simpa [Value.ownBlock] using e
    have h9 := (q3.own.lt gb rfl).1
    have h8 := hs1
    omega)
  have rA7 := q4
  clear q1 q2 q3 q4 hown hgrow hap hc hn2 hbw5 hsw5 hbwc rB5 rA6
  have hIA : InsS (w.heap.size + 1) wd (.slice (some ⟨g2a, 0, none⟩) (na + 1) c2a) (([lodI 0 0 0] ++ bt) ++ [lodI 1 1 0]) := InsS.of_own (by simp; omega) rA7.own (Nat.le_refl _)
  have hIB : InsS (w.heap.size + 1) wd (.slice (some ⟨g2b, 0, none⟩) (nb + 1) c2b) (([lodI 0 1 0] ++ bt) ++ [lodI 1 0 0]) := InsS.of_own (by simp; omega) r2B.own (Nat.le_refl _)
  clear rA7 r2B
  generalize na + 1 = ma at hIA ⊢
  generalize nb + 1 = mb at hIB ⊢
  go_wp2_with fail
  refine (store_any _ _ _ _).mono ?_
  rintro e w6 ⟨rfl, hc⟩
  have hb6 := below_more hbwd hc
  have hs6 := hb6.size
  have hI1 : InsS (w.heap.size + 1) (w6.alloc (.cells #[.int .i64 0, .int .i64 0, .int .i64 0, .int .i64 1, .int .i64 0] 37)) (.slice (some ⟨w6.heap.size, 0, none⟩) 1 1) [stoI 0 1 0] := InsS.lit (l := [stoI 0 1 0]) (by omega) (by simp)
  have hbl := below_alloc w6 (.cells #[.int .i64 0, .int .i64 0, .int .i64 0, .int .i64 1, .int .i64 0] 37)
  have hIA2 := (hIA.keep hc).keep hbl
  have hIB2 := (hIB.keep hc).keep hbl
  have hb6b := below_more hb6 hbl
  clear hIA hIB hc hbwd hb6
  go_wp2_with fail
  refine (store_any _ _ _ _).mono ?_
  rintro e w7 ⟨rfl, hc⟩
  have hI1b := hI1.keep hc
  have hIA3 := hIA2.keep hc
  have hIB3 := hIB2.keep hc
  have hb7 := below_more hb6b hc
  have hs7 := hb7.size
  generalize w6.heap.size = B1 at hI1b ⊢
  clear hI1 hIA2 hIB2 hc hb6b hbl hs6
  have hI2 : InsS (w.heap.size + 1) (w7.alloc (.cells #[.int .i64 0, .int .i64 1, .int .i64 0, .int .i64 1, .int .i64 0] 37)) (.slice (some ⟨w7.heap.size, 0, none⟩) 1 1) [stoI 1 1 0] := InsS.lit (l := [stoI 1 1 0]) (by omega) (by simp)
  have hbl := below_alloc w7 (.cells #[.int .i64 0, .int .i64 1, .int .i64 0, .int .i64 1, .int .i64 0] 37)
  have hI1c := hI1b.keep hbl
  have hIA4 := hIA3.keep hbl
  have hIB4 := hIB3.keep hbl
  have hb8 := below_more hb7 hbl
  have hs8 := hb8.size
  have hT : ThrS (w.heap.size + 1) ((w7.alloc (.cells #[.int .i64 0, .int .i64 1, .int .i64 0, .int .i64 1, .int .i64 0] 37)).alloc (.cells #[.slice (some ⟨B1, 0, none⟩) 1 1, .slice (some ⟨w7.heap.size, 0, none⟩) 1 1, .slice (some ⟨g2a, 0, none⟩) ma c2a, .slice (some ⟨g2b, 0, none⟩) mb c2b] 34)) (.slice (some ⟨w7.heap.size + 1, 0, none⟩) 4 4) (apaK bt g).T := by
    have := ThrS.lit (B := w.heap.size + 1) (w := w7.alloc (.cells #[.int .i64 0, .int .i64 1, .int .i64 0, .int .i64 1, .int .i64 0] 37)) (us := [.slice (some ⟨B1, 0, none⟩) 1 1, .slice (some ⟨w7.heap.size, 0, none⟩) 1 1, .slice (some ⟨g2a, 0, none⟩) ma c2a, .slice (some ⟨g2b, 0, none⟩) mb c2b]) (Ls := [[stoI 0 1 0], [stoI 1 1 0], ([lodI 0 0 0] ++ bt) ++ [lodI 1 1 0], ([lodI 0 1 0] ++ bt) ++ [lodI 1 0 0]]) (t := 34) (by omega) rfl (by simp) (get4 hI1c hI2 hIA4 hIB4)
    rw [World.size_alloc] at this
    exact this
  have hbT := below_two w7 (.cells #[.int .i64 0, .int .i64 1, .int .i64 0, .int .i64 1, .int .i64 0] 37) (.cells #[.slice (some ⟨B1, 0, none⟩) 1 1, .slice (some ⟨w7.heap.size, 0, none⟩) 1 1, .slice (some ⟨g2a, 0, none⟩) ma c2a, .slice (some ⟨g2b, 0, none⟩) mb c2b] 34)
  have hb9 := below_more hb7 hbT
  have hz9 : ((w7.alloc (.cells #[.int .i64 0, .int .i64 1, .int .i64 0, .int .i64 1, .int .i64 0] 37)).alloc (.cells #[.slice (some ⟨B1, 0, none⟩) 1 1, .slice (some ⟨w7.heap.size, 0, none⟩) 1 1, .slice (some ⟨g2a, 0, none⟩) ma c2a, .slice (some ⟨g2b, 0, none⟩) mb c2b] 34)).heap.size = w7.heap.size + 1 + 1 := by simp
  go_upto_region 6 with fail
  generalize (w7.alloc (.cells #[.int .i64 0, .int .i64 1, .int .i64 0, .int .i64 1, .int .i64 0] 37)).alloc (.cells #[.slice (some ⟨B1, 0, none⟩) 1 1, .slice (some ⟨w7.heap.size, 0, none⟩) 1 1, .slice (some ⟨g2a, 0, none⟩) ma c2a, .slice (some ⟨g2b, 0, none⟩) mb c2b] 34) = v9 at hT hbT hb9 hz9 ⊢
  rw [← hz9]
  generalize w7.heap.size + 1 = B7 at hT ⊢
  have hbx := below_alloc v9 (.cells #[.slice (some ⟨B7, 0, none⟩) 4 4, .bool false, .slice none 0 0] 25)
  have x0 : (v9.alloc (.cells #[.slice (some ⟨B7, 0, none⟩) 4 4, .bool false, .slice none 0 0] 25)).cell? ⟨v9.heap.size, 0, none⟩ = some (.slice (some ⟨B7, 0, none⟩) 4 4) := by simp
  have x1 : (v9.alloc (.cells #[.slice (some ⟨B7, 0, none⟩) 4 4, .bool false, .slice none 0 0] 25)).cell? ⟨v9.heap.size, 1, none⟩ = some (.bool false) := by simp
  have x2 : (v9.alloc (.cells #[.slice (some ⟨B7, 0, none⟩) 4 4, .bool false, .slice none 0 0] 25)).cell? ⟨v9.heap.size, 2, none⟩ = some (.slice none 0 0) := by simp
  have xf : (v9.alloc (.cells #[.slice (some ⟨B7, 0, none⟩) 4 4, .bool false, .slice none 0 0] 25)).frozen? ⟨v9.heap.size, 2, none⟩ = false := by simp
  have hb10 := below_more hb9 hbx
  have hz10 : (v9.alloc (.cells #[.slice (some ⟨B7, 0, none⟩) 4 4, .bool false, .slice none 0 0] 25)).heap.size = v9.heap.size + 1 := by simp
  have hK9 := hK1.lt
  have hs9 := hb9.size
  have HBLK : Hid (∀ b : Nat, b < v9.heap.size → (v9.alloc (.cells #[.slice (some ⟨B7, 0, none⟩) 4 4, .bool false, .slice none 0 0] 25)).heap[b]? = v9.heap[b]?) := fun b hb => hbx.block b hb
  generalize v9.alloc (.cells #[.slice (some ⟨B7, 0, none⟩) 4 4, .bool false, .slice none 0 0] 25) = v10 at hbx x0 x1 x2 xf hb10 hz10 HBLK ⊢
  have HT9 : Hid (ThrS (w.heap.size + 1) v9 (.slice (some ⟨B7, 0, none⟩) 4 4) (apaK bt g).T) := hT
  obtain ⟨c0, c1, c2, c3, c4, f0, f1, f2, f3, f4⟩ := hK1.keep hb10
  have hbw10 := below_more hba hb10
  have hRx : w.heap.size ≠ v9.heap.size := by omega
  clear hT hI1b hI1c hI2 hIA3 hIA4 hIB3 hIB4 hbl hb7 hb8 hs7 hs8 hbT hb9 hz9 hbx hb10 hK1
  obtain ⟨Bx, hBx⟩ : ∃ B, B = v9.heap.size := ⟨_, rfl⟩
  rw [← hBx] at x0 x1 x2 xf hz10 hRx hs9 HBLK ⊢
  have HBX : Hid (Bx = v9.heap.size) := hBx
  clear hBx
  have HC : Hid (AtmS v10.heap.size (v10.alloc (.cells #[.int .i64 2, .int .i64 0, .int .i64 1, .int .i64 2, .int .i64 1, .int .i64 0, .int .i64 3, .int .i64 0, .int .i64 1, .int .i64 3, .int .i64 1, .int .i64 0] 101)) (.slice (some ⟨v10.heap.size, 0, none⟩) 4 4) (apaK bt g).c) := AtmS.lit (w := v10) (c := [⟨2, 0, 1⟩, ⟨2, 1, 0⟩, ⟨3, 0, 1⟩, ⟨3, 1, 0⟩]) (Nat.le_refl _) (by simp)
  have hxl : Bx < v10.heap.size := by omega
  have hrl : w.heap.size < v10.heap.size := World.block_lt_of_cell? _ _ c0
  have HZ10 : Hid (v10.heap.size = Bx + 1) := hz10
  clear hz10
  go_wp2_with fail
  refine bodyPost_ret (v := .agg #[.slice (some ⟨B7, 0, none⟩) 4 4, .bool false, .slice (some ⟨v10.heap.size, 0, none⟩) 4 4, .int .i64 g, .int .i64 15]) (by simp [results, Try.results38, go_sem, *]) rfl (HKO.out _ _ ⟨_, _, rfl, test_mk (HT9.out _ ⟨?_, fun b h1 h2 => ?_⟩) (HC.out _ ⟨?_, fun b h1 h2 => ?_⟩), ?_⟩)
  · have h8 := HZ10.out
    have h9 := HBX.out
    simp
    omega
  · have h8 := HZ10.out
    have h9 := HBX.out
    have n1 : b ≠ w.heap.size := by omega
    have n2 : b ≠ Bx := by omega
    rw [Below.heap_alloc _ _ _ (by simp; omega), Below.heap_setCell _ _ _ _ n1, Below.heap_setCell _ _ _ _ n1, Below.heap_setCell _ _ _ _ n1, Below.heap_setCell _ _ _ _ n1, Below.heap_setCell _ _ _ _ n1, Below.heap_setCell _ _ _ _ n2]
    exact HBLK.out b (by omega)
  · simp
  · have hbe : b = v10.heap.size := by simp at h2; omega
    subst hbe
    have e9 : ∀ (X : World) (o : Obj), X.heap.size = v10.heap.size → (X.alloc o).heap[v10.heap.size]? = some o := fun X o hX => by rw [← hX]; exact heap_alloc_new X o
    rw [e9 _ _ (by simp), e9 _ _ rfl]
  · refine Below.alloc ?_ (by have := hbw10.size; simp; omega) _
    repeat (refine Below.setCell ?_ (by first | (simp; done) | (simp; omega) | omega) _)
    exact hbw10

end Go.Proofs.Ytomijmikkbhgmab
