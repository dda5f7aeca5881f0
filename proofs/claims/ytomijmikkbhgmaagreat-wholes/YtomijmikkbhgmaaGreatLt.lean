import Derived.Test.YtomijmikkbhgmaaGreatLm
namespace Go.Proofs.YtomijmikkbhgmaaGreat
open Go.RowKit

theorem Tryz.infoInstr : (Tryz.prog.info? 48).map (fun i => (i.zero, i.size, i.bytes)) = some (some (.agg #[.int .i64 0, .int .i64 0, .int .i64 0, .int .i64 0, .int .i64 0]), 5, 40) := by kernel_rfl
theorem Tryz.infoAtom : (Tryz.prog.info? 104).map (fun i => (i.zero, i.size, i.bytes)) = some (some (.agg #[.int .i64 0, .int .i64 0, .int .i64 0]), 3, 24) := by kernel_rfl
theorem Tryz.infoInstrs : (Tryz.prog.info? 46).map (fun i => (i.zero, i.size, i.bytes)) = some (some (.slice none 0 0), 1, 24) := by kernel_rfl

def insV (x : Ins) : List Value := [.int .i64 x.op, .int .i64 x.loc, .int .i64 x.reg, .int .i64 x.val, .int .i64 x.mode]
def atmV (x : Atm) : List Value := [.int .i64 x.thread, .int .i64 x.at', .int .i64 x.val]

theorem flat_inv {α β : Type} (f : α → List β) (s : Nat) (hf : ∀ x, (f x).length = s) (l : List α) (j : Nat) (u : β) (h : (l.flatMap f)[j]? = some u) : ∃ k r x, l[k]? = some x ∧ j = k * s + r ∧ (f x)[r]? = some u := by
  induction l generalizing j with
  | nil => simp at h
  | cons a l ih =>
    rw [List.flatMap_cons] at h
    by_cases hj : j < s
    · rw [List.getElem?_append_left (by rw [hf]; exact hj)] at h
      exact ⟨0, j, a, rfl, by omega, h⟩
    · rw [List.getElem?_append_right (by rw [hf]; omega), hf] at h
      obtain ⟨k, r, x, h1, h2, h3⟩ := ih _ h
      exact ⟨k + 1, r, x, by simpa using h1, by rw [Nat.add_mul]; omega, h3⟩

theorem ins_cells {w : World} {v : Value} {l : List Ins} {ao : Option Addr} {b off cap : Nat} (h : SlAt w 5 InsC v l ao b off cap) : ∀ ad, ao = some ad → ∀ j u, (l.flatMap insV)[j]? = some u → w.cell? (ad.add j) = some u := by
  intro ad had j u hj
  obtain ⟨k, r, x, hx, rfl, hr⟩ := flat_inv insV 5 (fun _ => rfl) l j u hj
  have hk : k < l.length := (List.getElem?_eq_some_iff.1 hx).1
  rw [h.ha (ne_nil hk)] at had
  cases had
  have hC := h.hc k x hx
  rw [Addr.add_lit, ← Nat.add_assoc]
  match r, hr with
  | 0, hr => simp [insV] at hr; subst hr; exact hC.c0
  | 1, hr => simp [insV] at hr; subst hr; exact hC.c1
  | 2, hr => simp [insV] at hr; subst hr; exact hC.c2
  | 3, hr => simp [insV] at hr; subst hr; exact hC.c3
  | 4, hr => simp [insV] at hr; subst hr; exact hC.c4
  | r + 5, hr => simp [insV] at hr

theorem atm_cells {w : World} {v : Value} {l : List Atm} {ao : Option Addr} {b off cap : Nat} (h : SlAt w 3 AtmC v l ao b off cap) : ∀ ad, ao = some ad → ∀ j u, (l.flatMap atmV)[j]? = some u → w.cell? (ad.add j) = some u := by
  intro ad had j u hj
  obtain ⟨k, r, x, hx, rfl, hr⟩ := flat_inv atmV 3 (fun _ => rfl) l j u hj
  have hk : k < l.length := (List.getElem?_eq_some_iff.1 hx).1
  rw [h.ha (ne_nil hk)] at had
  cases had
  have hC := h.hc k x hx
  rw [Addr.add_lit, ← Nat.add_assoc]
  match r, hr with
  | 0, hr => simp [atmV] at hr; subst hr; exact hC.c0
  | 1, hr => simp [atmV] at hr; subst hr; exact hC.c1
  | 2, hr => simp [atmV] at hr; subst hr; exact hC.c2
  | r + 3, hr => simp [atmV] at hr

theorem ins_one (l : List Ins) : ∀ u ∈ l.flatMap insV, u.oneCell' = true := by
  intro u hu
  obtain ⟨x, _, hx⟩ := List.mem_flatMap.1 hu
  simp [insV] at hx
  rcases hx with rfl | rfl | rfl | rfl | rfl <;> rfl
theorem atm_one (l : List Atm) : ∀ u ∈ l.flatMap atmV, u.oneCell' = true := by
  intro u hu
  obtain ⟨x, _, hx⟩ := List.mem_flatMap.1 hu
  simp [atmV] at hx
  rcases hx with rfl | rfl | rfl <;> rfl

theorem owns_ins {w : World} {base : Nat} {e : TypeId} {v : Value} {l : List Ins} (hl : l.length * 40 ≤ 140737488351232) (h : w.ownsRow base e 5 v l.length (l.flatMap insV)) : InsAt w v l := by
  obtain ⟨ao, b, off, cap, hs, _⟩ := owns_read (C := InsC) insV 5 (fun _ => rfl) (fun b off x hx => ⟨hx 0 _ rfl, hx 1 _ rfl, hx 2 _ rfl, hx 3 _ rfl, hx 4 _ rfl⟩) h
  exact ⟨hl, ao, b, off, cap, hs⟩
theorem owns_atm {w : World} {base : Nat} {e : TypeId} {v : Value} {l : List Atm} (hl : l.length * 24 ≤ 140737488351232) (h : w.ownsRow base e 3 v l.length (l.flatMap atmV)) : AtmAt w v l := by
  obtain ⟨ao, b, off, cap, hs, _⟩ := owns_read (C := AtmC) atmV 3 (fun _ => rfl) (fun b off x hx => ⟨hx 0 _ rfl, hx 1 _ rfl, hx 2 _ rfl⟩) h
  exact ⟨hl, ao, b, off, cap, hs⟩

/-- The form of what is owned. -/
theorem own_form {w : World} {base : Nat} {e : TypeId} {size : Nat} {v : Value} {n : Nat} {xs : List Value} (h : w.ownsRow base e size v n xs) : ∃ ao cap, v = .slice ao n cap ∧ (ao = none ∨ ∃ g, ao = some ⟨g, 0, none⟩ ∧ base ≤ g ∧ g < w.heap.size) := by
  rcases h.2 with ⟨rfl, rfl⟩ | ⟨g, cap, cur, rfl, hg, hh, _⟩
  · exact ⟨none, 0, rfl, .inl rfl⟩
  · exact ⟨_, cap, rfl, .inr ⟨g, rfl, hg, (Array.getElem?_eq_some_iff.1 hh).1⟩⟩

theorem keep_frozen' {w w' : World} (hb : Below w.heap.size w w') {b off : Nat} (h : b < w.heap.size) : w'.frozen? ⟨b, off, none⟩ = w.frozen? ⟨b, off, none⟩ := hb.frozen (p := ⟨b, off, none⟩) h

theorem cell_heap {w w' : World} {b off : Nat} {u : Value} (hs : w'.heap[b]? = w.heap[b]?) (h : w.cell? ⟨b, off, none⟩ = some u) : w'.cell? ⟨b, off, none⟩ = some u := (World.cell?_of_block (w := w) hs).trans h

/-- A thread's instructions stay while their own block stays. -/
theorem InsAt.other {w w' : World} {v : Value} {l : List Ins} (h : InsAt w v l) (hs : ∀ b, v.ownBlock = some b → w'.heap[b]? = w.heap[b]?) : InsAt w' v l := by
  obtain ⟨h0, ao, b, off, cap, hv, ha, hn, hc⟩ := h
  refine ⟨h0, ao, b, off, cap, hv, ha, hn, fun k x hx => ?_⟩
  have hk : k < l.length := (List.getElem?_eq_some_iff.1 hx).1
  have hb := hs b (by rw [hv, ha (ne_nil hk)]; rfl)
  obtain ⟨c0, c1, c2, c3, c4⟩ := hc k x hx
  exact ⟨cell_heap hb c0, cell_heap hb c1, cell_heap hb c2, cell_heap hb c3, cell_heap hb c4⟩

theorem own_other {w w' : World} {base : Nat} {e : TypeId} {size : Nat} {v : Value} {n : Nat} {xs : List Value} (h : w.ownsRow base e size v n xs) (hs : ∀ b, v.ownBlock = some b → w'.heap[b]? = w.heap[b]?) : w'.ownsRow base e size v n xs := by
  refine ⟨h.1, ?_⟩
  rcases h.2 with h2 | ⟨g, cap, cur, hv, hg, hh, r⟩
  · exact Or.inl h2
  · exact Or.inr ⟨g, cap, cur, hv, hg, by rw [hs g (by rw [hv]; rfl)]; exact hh, r⟩

theorem cell_new {W : World} {cs : Array Value} {t : TypeId} {j n : Nat} {v : Value} (hn : n = W.heap.size) (h : cs[j]? = some v) : (W.alloc (.cells cs t)).cell? ⟨n, j, none⟩ = some v := by
  subst hn
  rw [cell_of_row _ _ j cs t (0, 0) (heap_alloc_new W _)]
  exact h
theorem frozen_new {W : World} {cs : Array Value} {t : TypeId} {j n : Nat} (hn : n = W.heap.size) : (W.alloc (.cells cs t)).frozen? ⟨n, j, none⟩ = false := by
  subst hn
  simp

theorem AtmAt.other {w w' : World} {v : Value} {l : List Atm} (h : AtmAt w v l) (hs : ∀ b, v.ownBlock = some b → w'.heap[b]? = w.heap[b]?) : AtmAt w' v l := by
  obtain ⟨h0, ao, b, off, cap, hv, ha, hn, hc⟩ := h
  refine ⟨h0, ao, b, off, cap, hv, ha, hn, fun k x hx => ?_⟩
  have hk : k < l.length := (List.getElem?_eq_some_iff.1 hx).1
  have hb := hs b (by rw [hv, ha (ne_nil hk)]; rfl)
  obtain ⟨c0, c1, c2⟩ := hc k x hx
  exact ⟨cell_heap hb c0, cell_heap hb c1, cell_heap hb c2⟩

/-- Copy's own memory: the boxed test, the result, the copy so far (block B, its first field the slice of threads). -/
structure CopySt (w wr : World) (vt vc : Value) (fa : Bool) (B : Nat) (V : Value) (k : Nat) (T : List (List Ins)) (vs : List Value) : Prop where
  below : Below w.heap.size w wr
  hB : B = w.heap.size + 2
  b0 : wr.cell? ⟨w.heap.size, 0, none⟩ = some vt
  b2 : wr.cell? ⟨w.heap.size, 2, none⟩ = some vc
  r0 : wr.cell? ⟨w.heap.size + 1, 0, none⟩ = some (.slice none 0 0)
  r1 : wr.cell? ⟨w.heap.size + 1, 1, none⟩ = some (.bool false)
  r2 : wr.cell? ⟨w.heap.size + 1, 2, none⟩ = some (.slice none 0 0)
  q0 : wr.frozen? ⟨w.heap.size + 1, 0, none⟩ = false
  q1 : wr.frozen? ⟨w.heap.size + 1, 1, none⟩ = false
  q2 : wr.frozen? ⟨w.heap.size + 1, 2, none⟩ = false
  f0 : wr.cell? ⟨B, 0, none⟩ = some V
  f1 : wr.cell? ⟨B, 1, none⟩ = some (.bool fa)
  f2 : wr.cell? ⟨B, 2, none⟩ = some (.slice none 0 0)
  z0 : wr.frozen? ⟨B, 0, none⟩ = false
  z1 : wr.frozen? ⟨B, 1, none⟩ = false
  z2 : wr.frozen? ⟨B, 2, none⟩ = false
  lb : B < wr.heap.size
  len : vs.length = k
  own : wr.ownsRow (B + 1) 46 1 V k vs
  rows : ∀ j l, j < k → T[j]? = some l → ∃ u, vs[j]? = some u ∧ InsAt wr u l ∧ ∀ b, u.ownBlock = some b → B < b ∧ b < wr.heap.size ∧ V.ownBlock ≠ some b

theorem copySt_init (w : World) (vt vc : Value) (fa : Bool) (T : List (List Ins)) (t : TypeId) :
    CopySt w (((w.alloc (.cells #[vt, .bool fa, vc] t)).alloc (.cells #[.slice none 0 0, .bool false, .slice none 0 0] t)).alloc (.cells #[.slice none 0 0, .bool fa, .slice none 0 0] t)) vt vc fa (w.heap.size + 1 + 1) (.slice none 0 0) 0 T [] := by
  have k1 := below_alloc (w.alloc (.cells #[vt, .bool fa, vc] t)) (.cells #[.slice none 0 0, .bool false, .slice none 0 0] t)
  have k2 := below_alloc ((w.alloc (.cells #[vt, .bool fa, vc] t)).alloc (.cells #[.slice none 0 0, .bool false, .slice none 0 0] t)) (.cells #[.slice none 0 0, .bool fa, .slice none 0 0] t)
  have k := below_more k1 k2
  have e2 : ((w.alloc (.cells #[vt, .bool fa, vc] t)).alloc (.cells #[.slice none 0 0, .bool false, .slice none 0 0] t)).heap.size = w.heap.size + 1 + 1 := by simp
  refine ⟨(below_two _ _ _).alloc (by simp; omega) _, rfl, keep_cell k (by simp), keep_cell k (by simp), keep_cell k2 (by simp), keep_cell k2 (by simp), keep_cell k2 (by simp), ?_, ?_, ?_, cell_new e2.symm rfl, cell_new e2.symm rfl, cell_new e2.symm rfl, frozen_new e2.symm, frozen_new e2.symm, frozen_new e2.symm, by simp, rfl, World.ownsRow_nil _ _ _ _, fun j l hj => by omega⟩
  all_goals exact (keep_frozen' k2 (by simp)).trans (by simp)

theorem CopySt.grown {w wr w1 : World} {vt vc : Value} {fa : Bool} {B : Nat} {V : Value} {k : Nat} {T : List (List Ins)} {vs : List Value} (h : CopySt w wr vt vc fa B V k T vs) (hg : wr.grownBy w1 none) : CopySt w w1 vt vc fa B V k T vs := by
  have hb : Below wr.heap.size wr w1 := ⟨hg.os, hg.tape, hg.output, hg.size, fun i hi => hg.block i hi (by simp)⟩
  exact ⟨below_more h.below hb, h.hB, keep_cell hb h.b0, keep_cell hb h.b2, keep_cell hb h.r0, keep_cell hb h.r1, keep_cell hb h.r2, (keep_frozen' hb (World.block_lt_of_cell? _ _ h.r0)).trans h.q0, (keep_frozen' hb (World.block_lt_of_cell? _ _ h.r1)).trans h.q1, (keep_frozen' hb (World.block_lt_of_cell? _ _ h.r2)).trans h.q2,
    keep_cell hb h.f0, keep_cell hb h.f1, keep_cell hb h.f2, (keep_frozen' hb h.lb).trans h.z0, (keep_frozen' hb h.lb).trans h.z1, (keep_frozen' hb h.lb).trans h.z2, Nat.lt_of_lt_of_le h.lb hb.size, h.len, own_keep h.own hb,
    fun j l hj hl => by obtain ⟨u, h1, h2, h3⟩ := h.rows j l hj hl; exact ⟨u, h1, h2.keep hb, fun b hb' => ⟨(h3 b hb').1, Nat.lt_of_lt_of_le (h3 b hb').2.1 hb.size, (h3 b hb').2.2⟩⟩⟩

/-- One thread more. -/
theorem CopySt.step {w w1 w2 : World} {vt vc : Value} {fa : Bool} {B : Nat} {V V' : Value} {k : Nat} {T : List (List Ins)} {vs : List Value} (h : CopySt w w1 vt vc fa B V k T vs)
    {l : List Ins} (hx : T[k]? = some l) {u : Value} {o : Obj} (hu : InsAt w1 u l) (hub : ∀ b, u.ownBlock = some b → B < b ∧ b < w1.heap.size ∧ V.ownBlock ≠ some b)
    (hown : w2.ownsRow (B + 1) 46 1 V' (k + 1) (vs ++ [u])) (hg : (w1.alloc o).grownBy w2 V.ownBlock) (hap : ∀ g, V'.ownBlock = some g → V.ownBlock = some g ∨ w1.heap.size + 1 ≤ g) :
    CopySt w (w2.setCell ⟨B, 0, none⟩ V') vt vc fa B V' (k + 1) T (vs ++ [u]) := by
  have hVb : ∀ g, V.ownBlock = some g → B + 1 ≤ g ∧ g < w1.heap.size := fun g hg => h.own.lt g hg
  have hB := h.hB
  have hBl := h.lb
  have key : ∀ b, b < w1.heap.size → V.ownBlock ≠ some b → b ≠ B → (w2.setCell ⟨B, 0, none⟩ V').heap[b]? = w1.heap[b]? := by
    intro b hb hne hnB
    rw [Below.heap_setCell _ _ _ _ hnB, hg.block b (by simp; omega) (fun e => hne e.symm), Below.heap_alloc _ _ _ hb]
  have hBk : w2.heap[B]? = w1.heap[B]? := by
    rw [hg.block B (by simp; omega) (fun e => by have := (hVb B e.symm).1; omega), Below.heap_alloc _ _ _ hBl]
  have kc : ∀ b off x, b < w.heap.size + 2 → w1.cell? ⟨b, off, none⟩ = some x → (w2.setCell ⟨B, 0, none⟩ V').cell? ⟨b, off, none⟩ = some x := fun b off x hb hc =>
    cell_heap (key b (by omega) (fun e => by have := (hVb b e).1; omega) (by omega)) hc
  have kf : ∀ b off, b < w.heap.size + 2 → (w2.setCell ⟨B, 0, none⟩ V').frozen? ⟨b, off, none⟩ = w1.frozen? ⟨b, off, none⟩ := fun b off hb =>
    World.frozen?_of_block (w := w1) (key b (by omega) (fun e => by have := (hVb b e).1; omega) (by omega))
  have f0 : w2.cell? ⟨B, 0, none⟩ = some V := cell_heap hBk h.f0
  have f1 : w2.cell? ⟨B, 1, none⟩ = some (.bool fa) := cell_heap hBk h.f1
  have f2 : w2.cell? ⟨B, 2, none⟩ = some (.slice none 0 0) := cell_heap hBk h.f2
  have z0 : w2.frozen? ⟨B, 0, none⟩ = false := (World.frozen?_of_block (w := w1) hBk).trans h.z0
  have z1 : w2.frozen? ⟨B, 1, none⟩ = false := (World.frozen?_of_block (w := w1) hBk).trans h.z1
  have z2 : w2.frozen? ⟨B, 2, none⟩ = false := (World.frozen?_of_block (w := w1) hBk).trans h.z2
  have hsz : w1.heap.size + 1 ≤ w2.heap.size := by have := hg.size; simpa using this
  have hV' : ∀ b, V'.ownBlock = some b → B < b := fun b hb => (hown.lt b hb).1
  have hbel : Below w.heap.size w (w2.setCell ⟨B, 0, none⟩ V') := by
    refine Below.setCell ?_ (by simp; omega) _
    exact Below.grown (h.below.alloc h.below.size _) hg (by have := h.below.size; simp; omega) (fun kk e => by have := (hVb kk e).1; omega)
  refine ⟨hbel, h.hB, kc _ _ _ (by omega) h.b0, kc _ _ _ (by omega) h.b2, kc _ _ _ (by omega) h.r0, kc _ _ _ (by omega) h.r1, kc _ _ _ (by omega) h.r2,
    (kf _ _ (by omega)).trans h.q0, (kf _ _ (by omega)).trans h.q1, (kf _ _ (by omega)).trans h.q2, ?_, ?_, ?_, ?_, ?_, ?_, by simp [World.setCell]; omega, by simp [h.len], ?_, ?_⟩
  · simp [go_sem, f0]
  · simp [go_sem, f1]
  · simp [go_sem, f2]
  · simp [go_sem, z0]
  · simp [go_sem, z1]
  · simp [go_sem, z2]
  · exact own_other hown (fun b hb => Below.heap_setCell _ _ _ _ (by have := hV' b hb; simp; omega))
  · intro j m hj hm
    by_cases hjk : j < k
    · obtain ⟨x, h1, h2, h3⟩ := h.rows j m hjk hm
      refine ⟨x, by rw [List.getElem?_append_left (by rw [h.len]; exact hjk)]; exact h1, ?_, ?_⟩
      · refine h2.other (fun b hb => ?_)
        by_cases hbl : b < w1.heap.size
        · exact key b hbl (h3 b hb).2.2 (by have := (h3 b hb).1; omega)
        · have := (h3 b hb).2.1; omega
      · intro b hb
        have hb2 := (h3 b hb).2.1
        refine ⟨(h3 b hb).1, by simp [World.setCell]; omega, fun e => ?_⟩
        rcases hap b e with e' | e'
        · exact (h3 b hb).2.2 e'
        · omega
    · have : j = k := by omega
      subst this
      rw [hx] at hm
      cases hm
      refine ⟨u, by rw [List.getElem?_append_right (by rw [h.len]; omega), h.len]; simp, ?_, ?_⟩
      · exact hu.other (fun b hb => key b (hub b hb).2.1 (hub b hb).2.2 (by have := (hub b hb).1; omega))
      · intro b hb
        have hb2 := (hub b hb).2.1
        refine ⟨(hub b hb).1, by simp [World.setCell]; omega, fun e => ?_⟩
        rcases hap b e with e' | e'
        · exact (hub b hb).2.2 e'
        · have := (hub b hb).2.1; omega

/-- What was copied, read as a test. -/
theorem CopySt.done {w w1 w' : World} {vt vc : Value} {fa : Bool} {B : Nat} {V : Value} {T : List (List Ins)} {vs : List Value} (h : CopySt w w1 vt vc fa B V T.length T vs) (hT : T.length * 24 ≤ 140737488351232)
    (hs : ∀ b : Nat, b ≠ B → b ≠ w.heap.size + 1 → w'.heap[b]? = w1.heap[b]?) : ThrAt w' V T := by
  have hB := h.hB
  have hV : ∀ b, V.ownBlock = some b → w'.heap[b]? = w1.heap[b]? := fun b hb => hs b (by have := (h.own.lt b hb).1; omega) (by have := (h.own.lt b hb).1; omega)
  have ho := own_other h.own hV
  have hr : ∀ (j : Nat) (l : List Ins), T[j]? = some l → ∃ u, vs[j]? = some u ∧ InsAt w' u l := by
    intro j l hj
    obtain ⟨u, h1, h2, h3⟩ := h.rows j l (List.getElem?_eq_some_iff.1 hj).1 hj
    exact ⟨u, h1, h2.other (fun b hb => hs b (by have := (h3 b hb).1; omega) (by have := (h3 b hb).1; omega))⟩
  refine ⟨hT, ?_⟩
  rcases ho.2 with ⟨hv, hn⟩ | ⟨g, cap, cur, hv, hg, hh, _⟩
  · have hT0 : T = [] := List.eq_nil_of_length_eq_zero hn
    subst hT0
    exact ⟨none, 0, 0, 0, hv, fun h => absurd rfl h, fun _ => ⟨rfl, rfl⟩, fun k x h => by simp at h⟩
  · refine ⟨_, g, 0, cap, hv, fun _ => rfl, fun h => by simp at h, fun k l hk => ?_⟩
    obtain ⟨u, h1, h2⟩ := hr k l hk
    have := ho.cells (g := g) (by rw [hv]; rfl) k u h1
    rw [Addr.add_lit] at this
    exact ⟨u, by rw [Nat.mul_one]; exact this, h2⟩

set_option maxHeartbeats 2000000 in
theorem copy_any (T : List (List Ins)) (fa : Bool) (c : List Atm) (v vt vc : Value) (w : World) (h : TestAt w v T fa c vt vc) :
    Calls Tryz.prog 17 #[v] w fun e w' => ∃ vt' vc', e = .returned (.agg #[vt', .bool fa, vc']) ∧ TestAt w' (.agg #[vt', .bool fa, vc']) T fa c vt' vc' ∧ Below w.heap.size w w' := by
  obtain ⟨hv, ht, ⟨hc0, ao', b', off', cap', hcv, hca, hcn, hcc⟩⟩ := h
  obtain ⟨ht0, ao, b, off, cap, htv, hta, _, htc⟩ := ht.opened
  subst hv htv hcv
  obtain ⟨i5, hi5, hy0, hy1, hy2⟩ := info_parts Tryz.infoInstr
  have HI5 : Hid (Tryz.prog.info? 48 = some i5 ∧ i5.zero = some (.agg #[.int .i64 0, .int .i64 0, .int .i64 0, .int .i64 0, .int .i64 0]) ∧ i5.size = 5 ∧ i5.bytes = 40) := ⟨hi5, hy0, hy1, hy2⟩
  obtain ⟨i1, hi1, hx0, hx1, hx2⟩ := info_parts Tryz.infoInstrs
  have HI1 : Hid (Tryz.prog.info? 46 = some i1 ∧ i1.zero = some (.slice none 0 0) ∧ i1.size = 1 ∧ i1.bytes = 24) := ⟨hi1, hx0, hx1, hx2⟩
  obtain ⟨i3, hi3, hw0, hw1, hw2⟩ := info_parts Tryz.infoAtom
  have HI3 : Hid (Tryz.prog.info? 104 = some i3 ∧ i3.zero = some (.agg #[.int .i64 0, .int .i64 0, .int .i64 0]) ∧ i3.size = 3 ∧ i3.bytes = 24) := ⟨hi3, hw0, hw1, hw2⟩
  clear hi5 hy0 hy1 hy2 hi1 hx0 hx1 hx2 hi3 hw0 hw1 hw2
  go_enter Tryz.func17, Tryz.ntmps17
  go_wp2_with fail
  have HS0 : Hid (CopySt w _ _ _ fa (w.heap.size + 1 + 1) (.slice none 0 0) 0 T []) := copySt_init w (.slice ao T.length cap) (.slice ao' c.length cap') fa T 25
  generalize hB : w.heap.size + 1 + 1 = B
  have HB2 : Hid (B = w.heap.size + 2) := by unfold Hid; omega
  have hB3 : w.heap.size + 1 < B := by omega
  have hB4 : w.heap.size < B := by omega
  clear hB
  go_loopw [4] (fun i wr => ∃ (k : Nat) (aoV : Option Addr) (capV : Nat) (vs : List Value), k ≤ T.length ∧ i = .int .i64 k ∧ CopySt w wr (.slice ao T.length cap) (.slice ao' c.length cap') fa B (.slice aoV k capV) k T vs) (fun i _ => T.length - (intOf i).toNat)
  case atStart => rw [HB2.out]; exact ⟨0, none, 0, [], Nat.zero_le _, rfl, HS0.out⟩
  case round =>
    obtain ⟨k, aoV, capV, vs, hk, rfl, S⟩ := hrel
    have HS : Hid (CopySt w wr (.slice ao T.length cap) (.slice ao' c.length cap') fa B (.slice aoV k capV) k T vs) := S
    obtain ⟨-, -, e0, e2, r0, r1, r2, q0, q1, q2, f0, f1, f2, z0, z1, z2, lb, -, -, -⟩ := S
    by_cases hlt : k < T.length
    · obtain ⟨l, hx⟩ := get_of_lt hlt
      obtain ⟨hbl, ao2, cap2, c0, hil⟩ := htc k l hx
      obtain rfl := hta (ne_nil hlt)
      have c1 := keep_cell HS.out.below c0
      have HIL : Hid (InsAt wr (.slice ao2 l.length cap2) l) := hil.keep HS.out.below
      obtain ⟨hl40, ao3, b3, off3, cap3, hs3⟩ := HIL.out
      have hv3 := hs3.hv
      simp only [Value.slice.injEq] at hv3
      obtain ⟨rfl, -, rfl⟩ := hv3
      have HS3 : Hid (SlAt wr 5 InsC (.slice ao2 l.length cap2) l ao2 b3 off3 cap2) := hs3
      have HX : Hid (T[k]? = some l) := hx
      have HTC : Hid (∀ k l, T[k]? = some l → b < w.heap.size ∧ ∃ ao' cap', w.cell? ⟨b, off + k, none⟩ = some (.slice ao' l.length cap') ∧ InsAt w (.slice ao' l.length cap') l) := htc
      have HCC : Hid (∀ k x, c[k]? = some x → AtmC w b' (off' + k * 3) x) := hcc
      clear hx hs3 hil c0 htc hcc HS0 ht
      go_wp2_with (at_builtin; refine append_new _ rfl (.tmp 16) (.tmp 21) 46 rfl wr.heap.size 48 i5 (.agg #[.int .i64 0, .int .i64 0, .int .i64 0, .int .i64 0, .int .i64 0]) 5 40 Tryz.underlying46 HI5.out.1 HI5.out.2.1 HI5.out.2.2.1 HI5.out.2.2.2 rfl (by decide) (.slice none 0 0) 0 [] rfl (World.ownsRow_nil _ _ _ _) ao2 l.length cap2 (l.flatMap insV) rfl (fun h => ⟨by rw [(HS3.out.hn h).1]; rfl, (HS3.out.hn h).2⟩) (flat_len insV 5 (fun _ => rfl) l) (ins_cells HS3.out) (ins_one l) (by unfold maxLen; omega) (by omega) (Nat.le_refl _) ?_)
      intro v1 w1 hown1 hgrow1 _
      have hap1 : ∀ b, v1.ownBlock = some b → wr.heap.size ≤ b ∧ b < w1.heap.size := fun b hb => hown1.lt b hb
      obtain ⟨aoN, capN, hvN, _⟩ := own_form hown1
      have hgN : wr.grownBy w1 none := hgrow1
      have S1 := HS.out.grown hgN
      have hub : ∀ b, v1.ownBlock = some b → B < b ∧ b < w1.heap.size ∧ (Value.slice aoV k capV).ownBlock ≠ some b := fun b hb => ⟨by have := (hap1 b hb).1; omega, (hap1 b hb).2, fun e => by have := (HS.out.own.lt b e).2; have := (hap1 b hb).1; omega⟩
      have hIn := owns_ins hl40 hown1
      subst hvN
      have HS1 : Hid (CopySt w w1 (.slice (some ⟨b, off, none⟩) T.length cap) (.slice ao' c.length cap') fa B (.slice aoV k capV) k T vs) := S1
      have HU : Hid (InsAt w1 (.slice aoN l.length capN) l ∧ ∀ b, (Value.slice aoN l.length capN).ownBlock = some b → B < b ∧ b < w1.heap.size ∧ (Value.slice aoV k capV).ownBlock ≠ some b) := ⟨hIn, hub⟩
      clear hown1 hgrow1 hap1 hgN hub hIn e0 e2 r0 r1 r2 q0 q1 q2 f0 f1 f2 z0 z1 z2 lb c1 HS HIL HS3
      obtain ⟨-, -, e0, e2, r0, r1, r2, q0, q1, q2, f0, f1, f2, z0, z1, z2, lb, -, -, -⟩ := S1
      go_wp2_with (at_builtin; refine append_new _ rfl (.tmp 24) (.tmp 26) 22 rfl (B + 1) 46 i1 (.slice none 0 0) 1 24 Tryz.underlying22 HI1.out.1 HI1.out.2.1 HI1.out.2.2.1 HI1.out.2.2.2 rfl (by decide) (.slice aoV k capV) k vs rfl (HS1.out.own.alloc _) (some ⟨w1.heap.size, 0, none⟩) 1 1 [.slice aoN l.length capN] rfl (fun h => by cases h) rfl (fun ad had => by cases had; exact new_one rfl) (by simp [Value.oneCell']) (by unfold maxLen; omega) (by omega) (by simp; omega) ?_)
      intro V2 w2 hown2 hgrow2 hap2
      have hap3 : ∀ g, V2.ownBlock = some g → (Value.slice aoV k capV).ownBlock = some g ∨ w1.heap.size + 1 ≤ g := by simpa using hap2
      obtain ⟨aoW, capW, hvW, _⟩ := own_form hown2
      subst hvW
      have HS2 : Hid (CopySt w (w2.setCell ⟨B, 0, none⟩ (.slice aoW (k + 1) capW)) (.slice (some ⟨b, off, none⟩) T.length cap) (.slice ao' c.length cap') fa B (.slice aoW (k + 1) capW) (k + 1) T (vs ++ [.slice aoN l.length capN])) :=
        HS1.out.step HX.out HU.out.1 HU.out.2 hown2 hgrow2 hap3
      have hBk : w2.heap[B]? = w1.heap[B]? := by
        rw [hgrow2.block B (by simp; omega) (fun e => by have := (HS1.out.own.lt B e.symm).1; omega), Below.heap_alloc _ _ _ lb]
      have y0 := cell_heap hBk f0
      have y3 : w2.frozen? ⟨B, 0, none⟩ = false := (World.frozen?_of_block (w := w1) hBk).trans z0
      clear hown2 hgrow2 hap2 hap3 hBk e0 e2 r0 r1 r2 q0 q1 q2 f0 f1 f2 z0 z1 z2 lb HS1 HU
      go_wp2_with fail
      go_roundw
      case measure => simp [intOf]; omega
      case rel => exact ⟨k + 1, aoW, capW, _, by omega, by go_num, HS2.out⟩
    · have hkT : k = T.length := by omega
      subst hkT
      have HCS : Hid (SlAt wr 3 AtmC (.slice ao' c.length cap') c ao' b' off' cap') := (SlAt.keep atmC_keeps ⟨rfl, hca, hcn, hcc⟩ HS.out.below)
      clear htc hta hca hcn hcc HS0 ht
      go_wp2_with (at_builtin; refine append_new _ rfl (.tmp 30) (.tmp 32) 23 rfl wr.heap.size 104 i3 (.agg #[.int .i64 0, .int .i64 0, .int .i64 0]) 3 24 Tryz.underlying23 HI3.out.1 HI3.out.2.1 HI3.out.2.2.1 HI3.out.2.2.2 rfl (by decide) (.slice none 0 0) 0 [] rfl (World.ownsRow_nil _ _ _ _) ao' c.length cap' (c.flatMap atmV) rfl (fun h => ⟨by rw [(HCS.out.hn h).1]; rfl, (HCS.out.hn h).2⟩) (flat_len atmV 3 (fun _ => rfl) c) (atm_cells HCS.out) (atm_one c) (by unfold maxLen; omega) (by omega) (Nat.le_refl _) ?_)
      intro v1 w1 hown1 hgrow1 _
      obtain ⟨aoN, capN, hvN, _⟩ := own_form hown1
      have hlt1 := fun b hb => hown1.lt b hb
      have S1 := HS.out.grown hgrow1
      subst hvN
      have hAt := owns_atm hc0 hown1
      have HS1 : Hid (CopySt w w1 (.slice ao T.length cap) (.slice ao' c.length cap') fa B (.slice aoV T.length capV) T.length T vs) := S1
      have HU : Hid (AtmAt w1 (.slice aoN c.length capN) c ∧ ∀ b, (Value.slice aoN c.length capN).ownBlock = some b → wr.heap.size ≤ b ∧ b < w1.heap.size) := ⟨hAt, hlt1⟩
      clear hown1 hgrow1 hlt1 hAt e0 e2 r0 r1 r2 q0 q1 q2 f0 f1 f2 z0 z1 z2 HCS
      have lbr := lb
      clear lb
      obtain ⟨-, -, e0, e2, r0, r1, r2, q0, q1, q2, f0, f1, f2, z0, z1, z2, lb, -, -, -⟩ := S1
      go_wp2_with fail
      have hs : ∀ x : Nat, x ≠ B → x ≠ w.heap.size + 1 → ((((w1.setCell ⟨B, 2, none⟩ (.slice aoN c.length capN)).setCell ⟨w.heap.size + 1, 0, none⟩ (.slice aoV T.length capV)).setCell ⟨w.heap.size + 1, 1, none⟩ (.bool fa)).setCell ⟨w.heap.size + 1, 2, none⟩ (.slice aoN c.length capN)).heap[x]? = w1.heap[x]? := by
        intro x h1 h2
        rw [Below.heap_setCell _ _ _ _ h2, Below.heap_setCell _ _ _ _ h2, Below.heap_setCell _ _ _ _ h2, Below.heap_setCell _ _ _ _ h1]
      refine bodyPost_ret (v := .agg #[.slice aoV T.length capV, .bool fa, .slice aoN c.length capN]) (by simp [results, Tryz.results17, go_sem, *]) rfl
        ⟨_, _, rfl, ⟨rfl, HS1.out.done ht0 hs, HU.out.1.other (fun x hx => hs x (by have := (HU.out.2 x hx).1; omega) (by have := (HU.out.2 x hx).1; omega))⟩, ?_⟩
      exact (((HS1.out.below.setCell (by simp; omega) _).setCell (by simp) _).setCell (by simp) _).setCell (by simp) _

end Go.Proofs.YtomijmikkbhgmaaGreat
