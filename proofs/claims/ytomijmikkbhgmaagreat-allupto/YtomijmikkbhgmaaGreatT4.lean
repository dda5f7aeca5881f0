import Derived.Test.YtomijmikkbhgmaaGreatLm
import Derived.Test.YtomijmikkbhgmaaGreatT2
import Derived.Deep.RegionWith
namespace Go.Proofs.YtomijmikkbhgmaaGreat
open Go.RowKit

theorem Tryz.infoInstr : (Tryz.prog.info? 48).map (fun i => (i.zero, i.size, i.bytes)) = some (some (.agg #[.int .i64 0, .int .i64 0, .int .i64 0, .int .i64 0, .int .i64 0]), 5, 40) := by kernel_rfl
theorem Tryz.infoAtom : (Tryz.prog.info? 104).map (fun i => (i.zero, i.size, i.bytes)) = some (some (.agg #[.int .i64 0, .int .i64 0, .int .i64 0]), 3, 24) := by kernel_rfl
theorem Tryz.infoInstrs : (Tryz.prog.info? 46).map (fun i => (i.zero, i.size, i.bytes)) = some (some (.slice none 0 0), 1, 24) := by kernel_rfl

def insV (x : Ins) : List Value := [.int .i64 x.op, .int .i64 x.loc, .int .i64 x.reg, .int .i64 x.val, .int .i64 x.mode]
def atmV (x : Atm) : List Value := [.int .i64 x.thread, .int .i64 x.at', .int .i64 x.val]

theorem flat_inv {α β : Type} (f : α → List β) (s : Nat) (hf : ∀ x, (f x).length = s) (l : List α) (j : Nat) (u : β) (h : (l.flatMap f)[j]? = some u) : ∃ k r x, l[k]? = some x ∧ j = k * s + r ∧ (f x)[r]? = some u := by
  induction l generalizing j with
  | nil => simp at h
  | cons a l ih =>
    rw [List.flatMap_cons] at h
    by_cases hj : j < s
    · rw [List.getElem?_append_left (by rw [hf]; exact hj)] at h
      exact ⟨0, j, a, rfl, by omega, h⟩
    · rw [List.getElem?_append_right (by rw [hf]; omega), hf] at h
      obtain ⟨k, r, x, h1, h2, h3⟩ := ih _ h
      exact ⟨k + 1, r, x, by simpa using h1, by rw [Nat.add_mul]; omega, h3⟩

theorem ins_cells {w : World} {v : Value} {l : List Ins} {ao : Option Addr} {b off cap : Nat} (h : SlAt w 5 InsC v l ao b off cap) : ∀ ad, ao = some ad → ∀ j u, (l.flatMap insV)[j]? = some u → w.cell? (ad.add j) = some u := by
  intro ad had j u hj
  obtain ⟨k, r, x, hx, rfl, hr⟩ := flat_inv insV 5 (fun _ => rfl) l j u hj
  have hk : k < l.length := (List.getElem?_eq_some_iff.1 hx).1
  rw [h.ha (ne_nil hk)] at had
  cases had
  have hC := h.hc k x hx
  rw [Addr.add_lit, ← Nat.add_assoc]
  match r, hr with
  | 0, hr => simp [insV] at hr; subst hr; exact hC.c0
  | 1, hr => simp [insV] at hr; subst hr; exact hC.c1
  | 2, hr => simp [insV] at hr; subst hr; exact hC.c2
  | 3, hr => simp [insV] at hr; subst hr; exact hC.c3
  | 4, hr => simp [insV] at hr; subst hr; exact hC.c4
  | r + 5, hr => simp [insV] at hr

theorem atm_cells {w : World} {v : Value} {l : List Atm} {ao : Option Addr} {b off cap : Nat} (h : SlAt w 3 AtmC v l ao b off cap) : ∀ ad, ao = some ad → ∀ j u, (l.flatMap atmV)[j]? = some u → w.cell? (ad.add j) = some u := by
  intro ad had j u hj
  obtain ⟨k, r, x, hx, rfl, hr⟩ := flat_inv atmV 3 (fun _ => rfl) l j u hj
  have hk : k < l.length := (List.getElem?_eq_some_iff.1 hx).1
  rw [h.ha (ne_nil hk)] at had
  cases had
  have hC := h.hc k x hx
  rw [Addr.add_lit, ← Nat.add_assoc]
  match r, hr with
  | 0, hr => simp [atmV] at hr; subst hr; exact hC.c0
  | 1, hr => simp [atmV] at hr; subst hr; exact hC.c1
  | 2, hr => simp [atmV] at hr; subst hr; exact hC.c2
  | r + 3, hr => simp [atmV] at hr

theorem ins_one (l : List Ins) : ∀ u ∈ l.flatMap insV, u.oneCell' = true := by
  intro u hu
  obtain ⟨x, _, hx⟩ := List.mem_flatMap.1 hu
  simp [insV] at hx
  rcases hx with rfl | rfl | rfl | rfl | rfl <;> rfl
theorem atm_one (l : List Atm) : ∀ u ∈ l.flatMap atmV, u.oneCell' = true := by
  intro u hu
  obtain ⟨x, _, hx⟩ := List.mem_flatMap.1 hu
  simp [atmV] at hx
  rcases hx with rfl | rfl | rfl <;> rfl

theorem owns_ins {w : World} {base : Nat} {e : TypeId} {v : Value} {l : List Ins} (hl : l.length * 40 ≤ 140737488351232) (h : w.ownsRow base e 5 v l.length (l.flatMap insV)) : InsAt w v l := by
  obtain ⟨ao, b, off, cap, hs, _⟩ := owns_read (C := InsC) insV 5 (fun _ => rfl) (fun b off x hx => ⟨hx 0 _ rfl, hx 1 _ rfl, hx 2 _ rfl, hx 3 _ rfl, hx 4 _ rfl⟩) h
  exact ⟨hl, ao, b, off, cap, hs⟩
theorem owns_atm {w : World} {base : Nat} {e : TypeId} {v : Value} {l : List Atm} (hl : l.length * 24 ≤ 140737488351232) (h : w.ownsRow base e 3 v l.length (l.flatMap atmV)) : AtmAt w v l := by
  obtain ⟨ao, b, off, cap, hs, _⟩ := owns_read (C := AtmC) atmV 3 (fun _ => rfl) (fun b off x hx => ⟨hx 0 _ rfl, hx 1 _ rfl, hx 2 _ rfl⟩) h
  exact ⟨hl, ao, b, off, cap, hs⟩

/-- The form of what is owned. -/
theorem own_form {w : World} {base : Nat} {e : TypeId} {size : Nat} {v : Value} {n : Nat} {xs : List Value} (h : w.ownsRow base e size v n xs) : ∃ ao cap, v = .slice ao n cap ∧ (ao = none ∨ ∃ g, ao = some ⟨g, 0, none⟩ ∧ base ≤ g ∧ g < w.heap.size) := by
  rcases h.2 with ⟨rfl, rfl⟩ | ⟨g, cap, cur, rfl, hg, hh, _⟩
  · exact ⟨none, 0, rfl, .inl rfl⟩
  · exact ⟨_, cap, rfl, .inr ⟨g, rfl, hg, (Array.getElem?_eq_some_iff.1 hh).1⟩⟩

theorem keep_frozen' {w w' : World} (hb : Below w.heap.size w w') {b off : Nat} (h : b < w.heap.size) : w'.frozen? ⟨b, off, none⟩ = w.frozen? ⟨b, off, none⟩ := hb.frozen (p := ⟨b, off, none⟩) h

theorem cell_heap {w w' : World} {b off : Nat} {u : Value} (hs : w'.heap[b]? = w.heap[b]?) (h : w.cell? ⟨b, off, none⟩ = some u) : w'.cell? ⟨b, off, none⟩ = some u := (World.cell?_of_block (w := w) hs).trans h

/-- A thread's instructions stay while their own block stays. -/
theorem InsAt.other {w w' : World} {v : Value} {l : List Ins} (h : InsAt w v l) (hs : ∀ b, v.ownBlock = some b → w'.heap[b]? = w.heap[b]?) : InsAt w' v l := by
  obtain ⟨h0, ao, b, off, cap, hv, ha, hn, hc⟩ := h
  refine ⟨h0, ao, b, off, cap, hv, ha, hn, fun k x hx => ?_⟩
  have hk : k < l.length := (List.getElem?_eq_some_iff.1 hx).1
  have hb := hs b (by rw [hv, ha (ne_nil hk)]; rfl)
  obtain ⟨c0, c1, c2, c3, c4⟩ := hc k x hx
  exact ⟨cell_heap hb c0, cell_heap hb c1, cell_heap hb c2, cell_heap hb c3, cell_heap hb c4⟩

theorem own_other {w w' : World} {base : Nat} {e : TypeId} {size : Nat} {v : Value} {n : Nat} {xs : List Value} (h : w.ownsRow base e size v n xs) (hs : ∀ b, v.ownBlock = some b → w'.heap[b]? = w.heap[b]?) : w'.ownsRow base e size v n xs := by
  refine ⟨h.1, ?_⟩
  rcases h.2 with h2 | ⟨g, cap, cur, hv, hg, hh, r⟩
  · exact Or.inl h2
  · exact Or.inr ⟨g, cap, cur, hv, hg, by rw [hs g (by rw [hv]; rfl)]; exact hh, r⟩

theorem cell_new {W : World} {cs : Array Value} {t : TypeId} {j n : Nat} {v : Value} (hn : n = W.heap.size) (h : cs[j]? = some v) : (W.alloc (.cells cs t)).cell? ⟨n, j, none⟩ = some v := by
  subst hn
  rw [cell_of_row _ _ j cs t (0, 0) (heap_alloc_new W _)]
  exact h
theorem frozen_new {W : World} {cs : Array Value} {t : TypeId} {j n : Nat} (hn : n = W.heap.size) : (W.alloc (.cells cs t)).frozen? ⟨n, j, none⟩ = false := by
  subst hn
  simp

theorem AtmAt.other {w w' : World} {v : Value} {l : List Atm} (h : AtmAt w v l) (hs : ∀ b, v.ownBlock = some b → w'.heap[b]? = w.heap[b]?) : AtmAt w' v l := by
  obtain ⟨h0, ao, b, off, cap, hv, ha, hn, hc⟩ := h
  refine ⟨h0, ao, b, off, cap, hv, ha, hn, fun k x hx => ?_⟩
  have hk : k < l.length := (List.getElem?_eq_some_iff.1 hx).1
  have hb := hs b (by rw [hv, ha (ne_nil hk)]; rfl)
  obtain ⟨c0, c1, c2⟩ := hc k x hx
  exact ⟨cell_heap hb c0, cell_heap hb c1, cell_heap hb c2⟩

/-- Copy's own memory: the boxed test, the result, the copy so far (block B, its first field the slice of threads). -/
structure CopySt (w wr : World) (vt vc : Value) (fa : Bool) (B : Nat) (V : Value) (k : Nat) (T : List (List Ins)) (vs : List Value) : Prop where
  below : Below w.heap.size w wr
  hB : B = w.heap.size + 2
  b0 : wr.cell? ⟨w.heap.size, 0, none⟩ = some vt
  b2 : wr.cell? ⟨w.heap.size, 2, none⟩ = some vc
  r0 : wr.cell? ⟨w.heap.size + 1, 0, none⟩ = some (.slice none 0 0)
  r1 : wr.cell? ⟨w.heap.size + 1, 1, none⟩ = some (.bool false)
  r2 : wr.cell? ⟨w.heap.size + 1, 2, none⟩ = some (.slice none 0 0)
  q0 : wr.frozen? ⟨w.heap.size + 1, 0, none⟩ = false
  q1 : wr.frozen? ⟨w.heap.size + 1, 1, none⟩ = false
  q2 : wr.frozen? ⟨w.heap.size + 1, 2, none⟩ = false
  f0 : wr.cell? ⟨B, 0, none⟩ = some V
  f1 : wr.cell? ⟨B, 1, none⟩ = some (.bool fa)
  f2 : wr.cell? ⟨B, 2, none⟩ = some (.slice none 0 0)
  z0 : wr.frozen? ⟨B, 0, none⟩ = false
  z1 : wr.frozen? ⟨B, 1, none⟩ = false
  z2 : wr.frozen? ⟨B, 2, none⟩ = false
  lb : B < wr.heap.size
  len : vs.length = k
  own : wr.ownsRow (B + 1) 46 1 V k vs
  rows : ∀ j l, j < k → T[j]? = some l → ∃ u, vs[j]? = some u ∧ InsAt wr u l ∧ ∀ b, u.ownBlock = some b → B < b ∧ b < wr.heap.size ∧ V.ownBlock ≠ some b

theorem copySt_init (w : World) (vt vc : Value) (fa : Bool) (T : List (List Ins)) (t : TypeId) :
    CopySt w (((w.alloc (.cells #[vt, .bool fa, vc] t)).alloc (.cells #[.slice none 0 0, .bool false, .slice none 0 0] t)).alloc (.cells #[.slice none 0 0, .bool fa, .slice none 0 0] t)) vt vc fa (w.heap.size + 1 + 1) (.slice none 0 0) 0 T [] := by
  have k1 := below_alloc (w.alloc (.cells #[vt, .bool fa, vc] t)) (.cells #[.slice none 0 0, .bool false, .slice none 0 0] t)
  have k2 := below_alloc ((w.alloc (.cells #[vt, .bool fa, vc] t)).alloc (.cells #[.slice none 0 0, .bool false, .slice none 0 0] t)) (.cells #[.slice none 0 0, .bool fa, .slice none 0 0] t)
  have k := below_more k1 k2
  have e2 : ((w.alloc (.cells #[vt, .bool fa, vc] t)).alloc (.cells #[.slice none 0 0, .bool false, .slice none 0 0] t)).heap.size = w.heap.size + 1 + 1 := by simp
  refine ⟨(below_two _ _ _).alloc (by simp; omega) _, rfl, keep_cell k (by simp), keep_cell k (by simp), keep_cell k2 (by simp), keep_cell k2 (by simp), keep_cell k2 (by simp), ?_, ?_, ?_, cell_new e2.symm rfl, cell_new e2.symm rfl, cell_new e2.symm rfl, frozen_new e2.symm, frozen_new e2.symm, frozen_new e2.symm, by simp, rfl, World.ownsRow_nil _ _ _ _, fun j l hj => by omega⟩
  all_goals exact (keep_frozen' k2 (by simp)).trans (by simp)

theorem CopySt.grown {w wr w1 : World} {vt vc : Value} {fa : Bool} {B : Nat} {V : Value} {k : Nat} {T : List (List Ins)} {vs : List Value} (h : CopySt w wr vt vc fa B V k T vs) (hg : wr.grownBy w1 none) : CopySt w w1 vt vc fa B V k T vs := by
  have hb : Below wr.heap.size wr w1 := ⟨hg.os, hg.tape, hg.output, hg.size, fun i hi => hg.block i hi (by simp)⟩
  exact ⟨below_more h.below hb, h.hB, keep_cell hb h.b0, keep_cell hb h.b2, keep_cell hb h.r0, keep_cell hb h.r1, keep_cell hb h.r2, (keep_frozen' hb (World.block_lt_of_cell? _ _ h.r0)).trans h.q0, (keep_frozen' hb (World.block_lt_of_cell? _ _ h.r1)).trans h.q1, (keep_frozen' hb (World.block_lt_of_cell? _ _ h.r2)).trans h.q2,
    keep_cell hb h.f0, keep_cell hb h.f1, keep_cell hb h.f2, (keep_frozen' hb h.lb).trans h.z0, (keep_frozen' hb h.lb).trans h.z1, (keep_frozen' hb h.lb).trans h.z2, Nat.lt_of_lt_of_le h.lb hb.size, h.len, own_keep h.own hb,
    fun j l hj hl => by obtain ⟨u, h1, h2, h3⟩ := h.rows j l hj hl; exact ⟨u, h1, h2.keep hb, fun b hb' => ⟨(h3 b hb').1, Nat.lt_of_lt_of_le (h3 b hb').2.1 hb.size, (h3 b hb').2.2⟩⟩⟩

/-- One thread more. -/
theorem CopySt.step {w w1 w2 : World} {vt vc : Value} {fa : Bool} {B : Nat} {V V' : Value} {k : Nat} {T : List (List Ins)} {vs : List Value} (h : CopySt w w1 vt vc fa B V k T vs)
    {l : List Ins} (hx : T[k]? = some l) {u : Value} {o : Obj} (hu : InsAt w1 u l) (hub : ∀ b, u.ownBlock = some b → B < b ∧ b < w1.heap.size ∧ V.ownBlock ≠ some b)
    (hown : w2.ownsRow (B + 1) 46 1 V' (k + 1) (vs ++ [u])) (hg : (w1.alloc o).grownBy w2 V.ownBlock) (hap : ∀ g, V'.ownBlock = some g → V.ownBlock = some g ∨ w1.heap.size + 1 ≤ g) :
    CopySt w (w2.setCell ⟨B, 0, none⟩ V') vt vc fa B V' (k + 1) T (vs ++ [u]) := by
  have hVb : ∀ g, V.ownBlock = some g → B + 1 ≤ g ∧ g < w1.heap.size := fun g hg => h.own.lt g hg
  have hB := h.hB
  have hBl := h.lb
  have key : ∀ b, b < w1.heap.size → V.ownBlock ≠ some b → b ≠ B → (w2.setCell ⟨B, 0, none⟩ V').heap[b]? = w1.heap[b]? := by
    intro b hb hne hnB
    rw [Below.heap_setCell _ _ _ _ hnB, hg.block b (by simp; omega) (fun e => hne e.symm), Below.heap_alloc _ _ _ hb]
  have hBk : w2.heap[B]? = w1.heap[B]? := by
    rw [hg.block B (by simp; omega) (fun e => by have := (hVb B e.symm).1; omega), Below.heap_alloc _ _ _ hBl]
  have kc : ∀ b off x, b < w.heap.size + 2 → w1.cell? ⟨b, off, none⟩ = some x → (w2.setCell ⟨B, 0, none⟩ V').cell? ⟨b, off, none⟩ = some x := fun b off x hb hc =>
    cell_heap (key b (by omega) (fun e => by have := (hVb b e).1; omega) (by omega)) hc
  have kf : ∀ b off, b < w.heap.size + 2 → (w2.setCell ⟨B, 0, none⟩ V').frozen? ⟨b, off, none⟩ = w1.frozen? ⟨b, off, none⟩ := fun b off hb =>
    World.frozen?_of_block (w := w1) (key b (by omega) (fun e => by have := (hVb b e).1; omega) (by omega))
  have f0 : w2.cell? ⟨B, 0, none⟩ = some V := cell_heap hBk h.f0
  have f1 : w2.cell? ⟨B, 1, none⟩ = some (.bool fa) := cell_heap hBk h.f1
  have f2 : w2.cell? ⟨B, 2, none⟩ = some (.slice none 0 0) := cell_heap hBk h.f2
  have z0 : w2.frozen? ⟨B, 0, none⟩ = false := (World.frozen?_of_block (w := w1) hBk).trans h.z0
  have z1 : w2.frozen? ⟨B, 1, none⟩ = false := (World.frozen?_of_block (w := w1) hBk).trans h.z1
  have z2 : w2.frozen? ⟨B, 2, none⟩ = false := (World.frozen?_of_block (w := w1) hBk).trans h.z2
  have hsz : w1.heap.size + 1 ≤ w2.heap.size := by have := hg.size; simpa using this
  have hV' : ∀ b, V'.ownBlock = some b → B < b := fun b hb => (hown.lt b hb).1
  have hbel : Below w.heap.size w (w2.setCell ⟨B, 0, none⟩ V') := by
    refine Below.setCell ?_ (by simp; omega) _
    exact Below.grown (h.below.alloc h.below.size _) hg (by have := h.below.size; simp; omega) (fun kk e => by have := (hVb kk e).1; omega)
  refine ⟨hbel, h.hB, kc _ _ _ (by omega) h.b0, kc _ _ _ (by omega) h.b2, kc _ _ _ (by omega) h.r0, kc _ _ _ (by omega) h.r1, kc _ _ _ (by omega) h.r2,
    (kf _ _ (by omega)).trans h.q0, (kf _ _ (by omega)).trans h.q1, (kf _ _ (by omega)).trans h.q2, ?_, ?_, ?_, ?_, ?_, ?_, by simp [World.setCell]; omega, by simp [h.len], ?_, ?_⟩
  · simp [go_sem, f0]
  · simp [go_sem, f1]
  · simp [go_sem, f2]
  · simp [go_sem, z0]
  · simp [go_sem, z1]
  · simp [go_sem, z2]
  · exact own_other hown (fun b hb => Below.heap_setCell _ _ _ _ (by have := hV' b hb; simp; omega))
  · intro j m hj hm
    by_cases hjk : j < k
    · obtain ⟨x, h1, h2, h3⟩ := h.rows j m hjk hm
      refine ⟨x, by rw [List.getElem?_append_left (by rw [h.len]; exact hjk)]; exact h1, ?_, ?_⟩
      · refine h2.other (fun b hb => ?_)
        by_cases hbl : b < w1.heap.size
        · exact key b hbl (h3 b hb).2.2 (by have := (h3 b hb).1; omega)
        · have := (h3 b hb).2.1; omega
      · intro b hb
        have hb2 := (h3 b hb).2.1
        refine ⟨(h3 b hb).1, by simp [World.setCell]; omega, fun e => ?_⟩
        rcases hap b e with e' | e'
        · exact (h3 b hb).2.2 e'
        · omega
    · have : j = k := by omega
      subst this
      rw [hx] at hm
      cases hm
      refine ⟨u, by rw [List.getElem?_append_right (by rw [h.len]; omega), h.len]; simp, ?_, ?_⟩
      · exact hu.other (fun b hb => key b (hub b hb).2.1 (hub b hb).2.2 (by have := (hub b hb).1; omega))
      · intro b hb
        have hb2 := (hub b hb).2.1
        refine ⟨(hub b hb).1, by simp [World.setCell]; omega, fun e => ?_⟩
        rcases hap b e with e' | e'
        · exact (hub b hb).2.2 e'
        · have := (hub b hb).2.1; omega

/-- What was copied, read as a test. -/
theorem CopySt.done {w w1 w' : World} {vt vc : Value} {fa : Bool} {B : Nat} {V : Value} {T : List (List Ins)} {vs : List Value} (h : CopySt w w1 vt vc fa B V T.length T vs) (hT : T.length * 24 ≤ 140737488351232)
    (hs : ∀ b : Nat, b ≠ B → b ≠ w.heap.size + 1 → w'.heap[b]? = w1.heap[b]?) : ThrAt w' V T := by
  have hB := h.hB
  have hV : ∀ b, V.ownBlock = some b → w'.heap[b]? = w1.heap[b]? := fun b hb => hs b (by have := (h.own.lt b hb).1; omega) (by have := (h.own.lt b hb).1; omega)
  have ho := own_other h.own hV
  have hr : ∀ (j : Nat) (l : List Ins), T[j]? = some l → ∃ u, vs[j]? = some u ∧ InsAt w' u l := by
    intro j l hj
    obtain ⟨u, h1, h2, h3⟩ := h.rows j l (List.getElem?_eq_some_iff.1 hj).1 hj
    exact ⟨u, h1, h2.other (fun b hb => hs b (by have := (h3 b hb).1; omega) (by have := (h3 b hb).1; omega))⟩
  refine ⟨hT, ?_⟩
  rcases ho.2 with ⟨hv, hn⟩ | ⟨g, cap, cur, hv, hg, hh, _⟩
  · have hT0 : T = [] := List.eq_nil_of_length_eq_zero hn
    subst hT0
    exact ⟨none, 0, 0, 0, hv, fun h => absurd rfl h, fun _ => ⟨rfl, rfl⟩, fun k x h => by simp at h⟩
  · refine ⟨_, g, 0, cap, hv, fun _ => rfl, fun h => by simp at h, fun k l hk => ?_⟩
    obtain ⟨u, h1, h2⟩ := hr k l hk
    have := ho.cells (g := g) (by rw [hv]; rfl) k u h1
    rw [Addr.add_lit] at this
    exact ⟨u, by rw [Nat.mul_one]; exact this, h2⟩

end Go.Proofs.YtomijmikkbhgmaaGreat

namespace Go.Proofs.YtomijmikkbhgmaaGreat
open Go.RowKit

theorem Tryz.infoInts : (Tryz.prog.info? 26).map (fun i => (i.zero, i.size, i.bytes)) = some (some (.slice none 0 0), 1, 24) := by kernel_rfl

def LC (w : World) (b off : Nat) (x : List Int) : Prop := ∃ u, w.cell? ⟨b, off, none⟩ = some u ∧ IntAt w u x
def LstAt (w : World) (v : Value) (L : List (List Int)) : Prop := ∃ ao b off cap, SlAt w 1 LC v L ao b off cap

theorem lc_keeps : Keeps LC := fun _ _ _ _ _ hb ⟨u, h1, h2⟩ => ⟨u, keep_cell hb h1, h2.keep hb⟩
theorem LstAt.keep {w w' : World} {v : Value} {L : List (List Int)} (h : LstAt w v L) (hb : Below w.heap.size w w') : LstAt w' v L := by
  obtain ⟨ao, b, off, cap, h⟩ := h
  exact ⟨ao, b, off, cap, h.keep lc_keeps hb⟩

structure ExeAt (w : World) (vf vo : Value) (x : Exe) : Prop where
  f : IntAt w vf x.from'
  o : LstAt w vo x.order
theorem ExeAt.keep {w w' : World} {vf vo : Value} {x : Exe} (h : ExeAt w vf vo x) (hb : Below w.heap.size w w') : ExeAt w' vf vo x := ⟨h.f.keep hb, h.o.keep hb⟩

theorem IntAt.form {w : World} {v : Value} {l : List Int} (h : IntAt w v l) : ∃ ao cap, v = .slice ao l.length cap := by
  obtain ⟨ao, b, off, cap, h⟩ := h
  exact ⟨ao, cap, h.hv⟩

theorem IntAt.other {w w' : World} {v : Value} {l : List Int} (h : IntAt w v l) (hs : ∀ b : Nat, v.ownBlock = some b → w'.heap[b]? = w.heap[b]?) : IntAt w' v l := by
  obtain ⟨ao, b, off, cap, hv, ha, hn, hc⟩ := h
  refine ⟨ao, b, off, cap, hv, ha, hn, fun k x hx => ?_⟩
  have hk : k < l.length := (List.getElem?_eq_some_iff.1 hx).1
  exact cell_heap (hs b (by rw [hv, ha (ne_nil hk)]; rfl)) (hc k x hx)

/-- A slice of numbers with room enough. -/
def IntCap (w : World) (v : Value) (l : List Int) : Prop := ∃ ao b off cap, SlAt w 1 IntC v l ao b off cap ∧ l.length ≤ cap
theorem IntNew.cap {B : Nat} {w : World} {v : Value} {l : List Int} (h : IntNew B w v l) : IntCap w v l := by
  obtain ⟨ao, b, off, cap, h1, _, h2⟩ := h
  exact ⟨ao, b, off, cap, h1, h2⟩
theorem IntCap.at' {w : World} {v : Value} {l : List Int} (h : IntCap w v l) : IntAt w v l := by
  obtain ⟨ao, b, off, cap, h1, _⟩ := h
  exact ⟨ao, b, off, cap, h1⟩
theorem IntCap.keep {w w' : World} {v : Value} {l : List Int} (h : IntCap w v l) (hb : Below w.heap.size w w') : IntCap w' v l := by
  obtain ⟨ao, b, off, cap, h1, h2⟩ := h
  exact ⟨ao, b, off, cap, h1.keep intC_keeps hb, h2⟩
theorem intCap_nil (w : World) : IntCap w (.slice none 0 0) [] := ⟨none, 0, 0, 0, ⟨rfl, fun h => absurd rfl h, fun _ => ⟨rfl, rfl⟩, fun k x h => by simp at h⟩, Nat.le_refl _⟩

theorem IntCap.other {w w' : World} {v : Value} {l : List Int} (h : IntCap w v l) (hs : ∀ b : Nat, v.ownBlock = some b → w'.heap[b]? = w.heap[b]?) : IntCap w' v l := by
  obtain ⟨ao, b, off, cap, ⟨hv, ha, hn, hc⟩, hl⟩ := h
  refine ⟨ao, b, off, cap, ⟨hv, ha, hn, fun k x hx => ?_⟩, hl⟩
  have hk : k < l.length := (List.getElem?_eq_some_iff.1 hx).1
  exact cell_heap (hs b (by rw [hv, ha (ne_nil hk)]; rfl)) (hc k x hx)
theorem IntCap.form {w : World} {v : Value} {l : List Int} (h : IntCap w v l) : ∃ ao cap, v = .slice ao l.length cap := h.at'.form

def LCC (w : World) (b off : Nat) (x : List Int) : Prop := ∃ u, w.cell? ⟨b, off, none⟩ = some u ∧ IntCap w u x
theorem lcc_keeps : Keeps LCC := fun _ _ _ _ _ hb ⟨u, h1, h2⟩ => ⟨u, keep_cell hb h1, h2.keep hb⟩

def LstC (w : World) (v : Value) (L : List (List Int)) : Prop := ∃ ao b off cap, SlAt w 1 LCC v L ao b off cap
theorem LstC.keep {w w' : World} {v : Value} {L : List (List Int)} (h : LstC w v L) (hb : Below w.heap.size w w') : LstC w' v L := by
  obtain ⟨ao, b, off, cap, h⟩ := h
  exact ⟨ao, b, off, cap, h.keep lcc_keeps hb⟩

/-- An execution whose lists have room for themselves. -/
structure ExeC (w : World) (vf vo : Value) (x : Exe) : Prop where
  f : IntAt w vf x.from'
  o : ∃ ao b off cap, SlAt w 1 LCC vo x.order ao b off cap
theorem ExeC.keep {w w' : World} {vf vo : Value} {x : Exe} (h : ExeC w vf vo x) (hb : Below w.heap.size w w') : ExeC w' vf vo x := by
  obtain ⟨ao, b, off, cap, hs⟩ := h.o
  exact ⟨h.f.keep hb, ao, b, off, cap, hs.keep lcc_keeps hb⟩
theorem ExeC.at' {w : World} {vf vo : Value} {x : Exe} (h : ExeC w vf vo x) : ExeAt w vf vo x := by
  obtain ⟨ao, b, off, cap, hs⟩ := h.o
  refine ⟨h.f, ao, b, off, cap, hs.hv, hs.ha, hs.hn, fun k l hl => ?_⟩
  obtain ⟨u, h1, h2⟩ := hs.hc k l hl
  exact ⟨u, h1, h2.at'⟩

/-- A slice of slices of the call's own, each of whose rows lies in a block of its own. -/
structure LL (w : World) (base : Nat) (V : Value) (L : List (List Int)) (vs : List Value) : Prop where
  len : vs.length = L.length
  own : w.ownsRow base 26 1 V L.length vs
  rows : ∀ (j : Nat) (x : List Int), L[j]? = some x → ∃ u, vs[j]? = some u ∧ IntCap w u x ∧ ∀ b, u.ownBlock = some b → base ≤ b ∧ b < w.heap.size ∧ V.ownBlock ≠ some b

theorem LL.nil (w : World) (base : Nat) : LL w base (.slice none 0 0) [] [] := ⟨rfl, World.ownsRow_nil _ _ _ _, fun j x h => by simp at h⟩

theorem LL.other {w w' : World} {base : Nat} {V : Value} {L : List (List Int)} {vs : List Value} (h : LL w base V L vs) (hsz : w.heap.size ≤ w'.heap.size) (hs : ∀ b : Nat, base ≤ b → b < w.heap.size → w'.heap[b]? = w.heap[b]?) : LL w' base V L vs := by
  refine ⟨h.len, own_other h.own (fun b hb => hs b (h.own.lt b hb).1 (h.own.lt b hb).2), fun j x hx => ?_⟩
  obtain ⟨u, h1, h2, h3⟩ := h.rows j x hx
  exact ⟨u, h1, h2.other (fun b hb => hs b (h3 b hb).1 (h3 b hb).2.1), fun b hb => ⟨(h3 b hb).1, Nat.lt_of_lt_of_le (h3 b hb).2.1 hsz, (h3 b hb).2.2⟩⟩
theorem LL.keep {w w' : World} {base : Nat} {V : Value} {L : List (List Int)} {vs : List Value} (h : LL w base V L vs) (hb : Below w.heap.size w w') : LL w' base V L vs := h.other hb.size (fun b _ hb2 => hb.block b hb2)
theorem LL.only {B : Nat} {w w' : World} {base : Nat} {V : Value} {L : List (List Int)} {vs : List Value} (h : LL w base V L vs) (ho : Only B w w') (hB : B < base) : LL w' base V L vs := h.other ho.size (fun b h1 h2 => ho.block b h2 (by omega))

theorem LL.snoc {w w2 : World} {base : Nat} {V V' : Value} {L : List (List Int)} {vs : List Value} (h : LL w base V L vs) {x : List Int} {u : Value} {o : Obj} (hu : IntCap w u x)
    (hub : ∀ b, u.ownBlock = some b → base ≤ b ∧ b < w.heap.size ∧ V.ownBlock ≠ some b) (hown : w2.ownsRow base 26 1 V' (L.length + 1) (vs ++ [u])) (hg : (w.alloc o).grownBy w2 V.ownBlock)
    (hap : ∀ g, V'.ownBlock = some g → V.ownBlock = some g ∨ w.heap.size + 1 ≤ g) : LL w2 base V' (L ++ [x]) (vs ++ [u]) := by
  have hsz : w.heap.size + 1 ≤ w2.heap.size := by have := hg.size; simpa using this
  have key : ∀ b : Nat, b < w.heap.size → V.ownBlock ≠ some b → w2.heap[b]? = w.heap[b]? := by
    intro b hb hne
    rw [hg.block b (by simp; omega) (fun e => hne e.symm), Below.heap_alloc _ _ _ hb]
  refine ⟨by simp [h.len], by simpa using hown, fun j y hy => ?_⟩
  by_cases hj : j < L.length
  · rw [List.getElem?_append_left hj] at hy
    obtain ⟨z, h1, h2, h3⟩ := h.rows j y hy
    refine ⟨z, by rw [List.getElem?_append_left (by rw [h.len]; exact hj)]; exact h1, h2.other (fun b hb => key b (h3 b hb).2.1 (h3 b hb).2.2), fun b hb => ?_⟩
    have h4 := (h3 b hb).2.1
    refine ⟨(h3 b hb).1, by omega, fun e => ?_⟩
    rcases hap b e with e' | e'
    · exact (h3 b hb).2.2 e'
    · omega
  · have hjL : j = L.length := by
      have := (List.getElem?_eq_some_iff.1 hy).1
      simp at this; omega
    subst hjL
    rw [List.getElem?_append_right (Nat.le_refl _), Nat.sub_self] at hy
    simp at hy
    subst hy
    refine ⟨u, by rw [List.getElem?_append_right (by rw [h.len]; exact Nat.le_refl _), h.len]; simp, hu.other (fun b hb => key b (hub b hb).2.1 (hub b hb).2.2), fun b hb => ?_⟩
    have h4 := (hub b hb).2.1
    refine ⟨(hub b hb).1, by omega, fun e => ?_⟩
    rcases hap b e with e' | e'
    · exact (hub b hb).2.2 e'
    · omega

/-- A list of lists in memory that is new: from block B on, its rows too. -/
def LstNew (B : Nat) (w : World) (v : Value) (L : List (List Int)) : Prop :=
  ∃ ao b off cap, v = .slice ao L.length cap ∧ (L ≠ [] → ao = some ⟨b, off, none⟩) ∧ (ao = none → L = [] ∧ cap = 0) ∧ B ≤ b ∧
    ∀ (k : Nat) (x : List Int), L[k]? = some x → ∃ u, w.cell? ⟨b, off + k, none⟩ = some u ∧ IntCap w u x ∧ ∀ g, u.ownBlock = some g → B ≤ g ∧ g < w.heap.size

theorem LL.read {w : World} {base : Nat} {V : Value} {L : List (List Int)} {vs : List Value} (h : LL w base V L vs) : LstNew base w V L := by
  rcases h.own.2 with ⟨hv, hn⟩ | ⟨g, cap, cur, hv, hg, hh, _⟩
  · have h0 : L = [] := List.eq_nil_of_length_eq_zero hn
    subst h0
    exact ⟨none, base, 0, 0, hv, fun h => absurd rfl h, fun _ => ⟨rfl, rfl⟩, Nat.le_refl _, fun k x h => by simp at h⟩
  · refine ⟨_, g, 0, cap, hv, fun _ => rfl, fun h => by simp at h, hg, fun k x hk => ?_⟩
    obtain ⟨u, h1, h2, h3⟩ := h.rows k x hk
    have := h.own.cells (g := g) (by rw [hv]; rfl) k u h1
    rw [Addr.add_lit] at this
    exact ⟨u, this, h2, fun b hb => ⟨(h3 b hb).1, (h3 b hb).2.1⟩⟩

theorem LstNew.at' {B : Nat} {w : World} {v : Value} {L : List (List Int)} (h : LstNew B w v L) : LstAt w v L := by
  obtain ⟨ao, b, off, cap, hv, ha, hn, _, hc⟩ := h
  refine ⟨ao, b, off, cap, hv, ha, hn, fun k x hx => ?_⟩
  obtain ⟨u, h1, h2, _⟩ := hc k x hx
  rw [Nat.mul_one]
  exact ⟨u, h1, h2.at'⟩
theorem LstNew.caps {B : Nat} {w : World} {v : Value} {L : List (List Int)} (h : LstNew B w v L) : ∃ ao b off cap, SlAt w 1 LCC v L ao b off cap := by
  obtain ⟨ao, b, off, cap, hv, ha, hn, _, hc⟩ := h
  refine ⟨ao, b, off, cap, hv, ha, hn, fun k x hx => ?_⟩
  obtain ⟨u, h1, h2, _⟩ := hc k x hx
  rw [Nat.mul_one]
  exact ⟨u, h1, h2⟩

/-- What is left of a slice behind its first k entries. -/
theorem intCap_drop {w : World} {l : List Int} {b off cap : Nat} (h : SlAt w 1 IntC (.slice (some ⟨b, off, none⟩) l.length cap) l (some ⟨b, off, none⟩) b off cap) (hc : l.length ≤ cap) {k : Nat} (hk : k ≤ l.length) :
    IntCap w (.slice (if cap = k then (some ⟨b, off, none⟩ : Option Addr) else some ⟨b, off + k, none⟩) (l.length - k) (cap - k)) (l.drop k) := by
  by_cases e : cap = k
  · rw [if_pos e]
    have hd : l.drop k = [] := List.drop_eq_nil_of_le (by omega)
    rw [hd]
    exact ⟨_, b, off, _, ⟨by rw [show l.length - k = 0 by omega]; rfl, fun h => absurd rfl h, fun h => by simp at h, fun k x h => by simp at h⟩, Nat.zero_le _⟩
  · rw [if_neg e]
    refine ⟨_, b, off + k, _, ⟨by rw [List.length_drop], fun _ => rfl, fun h => by simp at h, fun j x hx => ?_⟩, by rw [List.length_drop]; omega⟩
    rw [List.getElem?_drop] at hx
    have := h.hc (k + j) x hx
    unfold IntC at this ⊢
    rw [Nat.mul_one] at this ⊢
    rw [Nat.add_assoc]; exact this

end Go.Proofs.YtomijmikkbhgmaaGreat

namespace Go.Proofs.YtomijmikkbhgmaaGreat
open Go.RowKit

set_option maxHeartbeats 1000000 in
theorem sameInts_big (l : List Int) (hl : l.length ≤ 4000000000) (u v : Value) (w : World) (hu : IntAt w u l) (hv : IntAt w v l) :
    Calls Tryz.prog 20 #[u, v] w fun e w' => e = .returned (.bool true) ∧ Below w.heap.size w w' := by
  obtain ⟨ao, b, off, cap, hv1, ha, _, hc⟩ := hu
  obtain ⟨ao2, b2, off2, cap2, hv2, ha2, _, hc2⟩ := hv
  subst hv1 hv2
  have HC : Hid ((∀ k x, l[k]? = some x → IntC w b (off + k * 1) x) ∧ (∀ k x, l[k]? = some x → IntC w b2 (off2 + k * 1) x)) := ⟨hc, hc2⟩
  clear hc hc2
  have k0 : ((l.length : Int) != (l.length : Int)) = false := by simp
  go_enter Tryz.func20, Tryz.ntmps20
  go_wp2_with fail
  go_loopw [5] (fun i wr => ∃ k : Nat, k ≤ l.length ∧ i = .int .i64 k ∧ Below w.heap.size w wr) (fun i _ => l.length - (intOf i).toNat)
  case atStart => exact ⟨0, Nat.zero_le _, rfl, Below.refl _ _⟩
  case round =>
    obtain ⟨k, hk, rfl, hb⟩ := hrel
    by_cases hlt : k < l.length
    · obtain ⟨x, hx⟩ := get_of_lt hlt
      obtain rfl := ha (ne_nil hlt)
      obtain rfl := ha2 (ne_nil hlt)
      have c0 := intC_keeps _ _ _ _ _ hb (HC.out.1 k x hx)
      have d0 := intC_keeps _ _ _ _ _ hb (HC.out.2 k x hx)
      unfold IntC at c0 d0
      rw [Nat.mul_one] at c0 d0
      have n0 : (x != x) = false := by simp
      have hkI : (k : Int) < (l.length : Int) := by omega
      clear hx
      go_wp2_with fail
      go_quiet (fail)
      go_wp2_with fail
      go_roundw
      case measure => simp [intOf]; omega
      case rel => exact ⟨k + 1, by omega, by go_num, below_drewN hb _⟩
    · go_wp2_with fail
      go_ret
      exact ⟨rfl, hb⟩

theorem sameInts_any (l : List Int) (hl : l.length ≤ 100000) (u v : Value) (w : World) (hu : IntAt w u l) (hv : IntAt w v l) :
    Calls Tryz.prog 20 #[u, v] w fun e w' => e = .returned (.bool true) ∧ Below w.heap.size w w' := sameInts_big l (by omega) u v w hu hv

set_option maxHeartbeats 1000000 in
theorem sameLists_any (L : List (List Int)) (hL : L.length ≤ 100000) (hl : ∀ x ∈ L, x.length ≤ 100000) (u v : Value) (w : World) (hu : LstAt w u L) (hv : LstAt w v L) :
    Calls Tryz.prog 52 #[u, v] w fun e w' => e = .returned (.bool true) ∧ Below w.heap.size w w' := by
  obtain ⟨ao, b, off, cap, hv1, ha, _, hc⟩ := hu
  obtain ⟨ao2, b2, off2, cap2, hv2, ha2, _, hc2⟩ := hv
  subst hv1 hv2
  have HC : Hid ((∀ k x, L[k]? = some x → LC w b (off + k * 1) x) ∧ (∀ k x, L[k]? = some x → LC w b2 (off2 + k * 1) x) ∧ ∀ x ∈ L, x.length ≤ 100000) := ⟨hc, hc2, hl⟩
  clear hc hc2 hl
  have k0 : ((L.length : Int) != (L.length : Int)) = false := by simp
  go_enter Tryz.func52, Tryz.ntmps52
  go_wp2_with fail
  go_loopw [5] (fun i wr => ∃ k : Nat, k ≤ L.length ∧ i = .int .i64 k ∧ Below w.heap.size w wr) (fun i _ => L.length - (intOf i).toNat)
  case atStart => exact ⟨0, Nat.zero_le _, rfl, Below.refl _ _⟩
  case round =>
    obtain ⟨k, hk, rfl, hb⟩ := hrel
    by_cases hlt : k < L.length
    · obtain ⟨x, hx⟩ := get_of_lt hlt
      obtain rfl := ha (ne_nil hlt)
      obtain rfl := ha2 (ne_nil hlt)
      obtain ⟨u1, c0, i1⟩ := lc_keeps _ _ _ _ _ hb (HC.out.1 k x hx)
      obtain ⟨u2, d0, i2⟩ := lc_keeps _ _ _ _ _ hb (HC.out.2.1 k x hx)
      rw [Nat.mul_one] at c0 d0
      have HI : Hid (IntAt wr u1 x ∧ IntAt wr u2 x ∧ x.length ≤ 100000) := ⟨i1, i2, HC.out.2.2 x (List.mem_of_getElem? hx)⟩
      have hkI : (k : Int) < (L.length : Int) := by omega
      clear hx i1 i2
      go_wp2_with fail
      go_region_with (go_at_call 20; refine (sameInts_any x HI.out.2.2 u1 u2 _ (HI.out.1.keep (Below.refl _ _).drew) (HI.out.2.1.keep (Below.refl _ _).drew)).mono ?_; rintro e w5 ⟨rfl, hb5⟩)
      all_goals
        go_wp2_with fail
        go_roundw
        case measure => simp [intOf]; omega
        case rel => exact ⟨k + 1, by omega, by go_num, below_more hb.drew hb5⟩
    · go_wp2_with fail
      go_ret
      exact ⟨rfl, hb⟩

set_option maxHeartbeats 1000000 in
theorem sameExec_any (x : Exe) (h1 : x.from'.length ≤ 100000) (h2 : x.order.length ≤ 100000) (h3 : ∀ y ∈ x.order, y.length ≤ 100000) (f1 o1 f2 o2 : Value) (w : World) (hu : ExeAt w f1 o1 x) (hv : ExeAt w f2 o2 x) :
    Calls Tryz.prog 29 #[.agg #[f1, o1], .agg #[f2, o2]] w fun e w' => e = .returned (.bool true) ∧ Below w.heap.size w w' := by
  have HU : Hid (ExeAt w f1 o1 x ∧ ExeAt w f2 o2 x) := ⟨hu, hv⟩
  clear hu hv
  go_enter Tryz.func29, Tryz.ntmps29
  go_wp2_with fail
  refine (sameInts_any x.from' h1 f1 f2 _ (HU.out.1.f.keep (below_two _ _ _)) (HU.out.2.f.keep (below_two _ _ _))).mono ?_
  rintro e w3 ⟨rfl, hb3⟩
  have e0 := keep_cell hb3 (b := w.heap.size) (off := 1) (u := o1) (by simp)
  have e1 := keep_cell hb3 (b := w.heap.size + 1) (off := 1) (u := o2) (by simp)
  have hbw := below_more (below_two _ _ _) hb3
  clear hb3
  go_wp2_with fail
  refine (sameLists_any x.order h2 h3 o1 o2 _ (HU.out.1.o.keep hbw) (HU.out.2.o.keep hbw)).mono ?_
  rintro e w4 ⟨rfl, hb4⟩
  go_wp2_with fail
  go_ret
  exact ⟨rfl, below_more hbw hb4⟩

end Go.Proofs.YtomijmikkbhgmaaGreat
