import Derived.Test.YtomijmikkbhgmabLm
import Derived.Test.YtomijmikkbhgmabT1
namespace Go.Proofs.Ytomijmikkbhgmab
open Go.RowKit

theorem Try.infoInstr : (Try.prog.info? 37).map (fun i => (i.zero, i.size, i.bytes)) = some (some (.agg #[.int .i64 0, .int .i64 0, .int .i64 0, .int .i64 0, .int .i64 0]), 5, 40) := by kernel_rfl
theorem Try.infoAtom : (Try.prog.info? 101).map (fun i => (i.zero, i.size, i.bytes)) = some (some (.agg #[.int .i64 0, .int .i64 0, .int .i64 0]), 3, 24) := by kernel_rfl
theorem Try.infoInstrs : (Try.prog.info? 34).map (fun i => (i.zero, i.size, i.bytes)) = some (some (.slice none 0 0), 1, 24) := by kernel_rfl

def insV (x : Ins) : List Value := [.int .i64 x.op, .int .i64 x.loc, .int .i64 x.reg, .int .i64 x.val, .int .i64 x.mode]
def atmV (x : Atm) : List Value := [.int .i64 x.thread, .int .i64 x.at', .int .i64 x.val]

theorem flat_inv {α β : Type} (f : α → List β) (s : Nat) (hf : ∀ x, (f x).length = s) (l : List α) (j : Nat) (u : β) (h : (l.flatMap f)[j]? = some u) : ∃ k r x, l[k]? = some x ∧ j = k * s + r ∧ (f x)[r]? = some u := by
  induction l generalizing j with
  | nil => simp at h
  | cons a l ih =>
    rw [List.flatMap_cons] at h
    by_cases hj : j < s
    · rw [List.getElem?_append_left (by rw [hf]; exact hj)] at h
      exact ⟨0, j, a, rfl, by omega, h⟩
    · rw [List.getElem?_append_right (by rw [hf]; omega), hf] at h
      obtain ⟨k, r, x, h1, h2, h3⟩ := ih _ h
      exact ⟨k + 1, r, x, by simpa using h1, by rw [Nat.add_mul]; omega, h3⟩

theorem ins_cells {w : World} {v : Value} {l : List Ins} {ao : Option Addr} {b off cap : Nat} (h : SlAt w 5 InsC v l ao b off cap) : ∀ ad, ao = some ad → ∀ j u, (l.flatMap insV)[j]? = some u → w.cell? (ad.add j) = some u := by
  intro ad had j u hj
  obtain ⟨k, r, x, hx, rfl, hr⟩ := flat_inv insV 5 (fun _ => rfl) l j u hj
  have hk : k < l.length := (List.getElem?_eq_some_iff.1 hx).1
  rw [h.ha (ne_nil hk)] at had
  cases had
  have hC := h.hc k x hx
  rw [Addr.add_lit, ← Nat.add_assoc]
  match r, hr with
  | 0, hr => simp [insV] at hr; subst hr; exact hC.c0
  | 1, hr => simp [insV] at hr; subst hr; exact hC.c1
  | 2, hr => simp [insV] at hr; subst hr; exact hC.c2
  | 3, hr => simp [insV] at hr; subst hr; exact hC.c3
  | 4, hr => simp [insV] at hr; subst hr; exact hC.c4
  | r + 5, hr => simp [insV] at hr

theorem atm_cells {w : World} {v : Value} {l : List Atm} {ao : Option Addr} {b off cap : Nat} (h : SlAt w 3 AtmC v l ao b off cap) : ∀ ad, ao = some ad → ∀ j u, (l.flatMap atmV)[j]? = some u → w.cell? (ad.add j) = some u := by
  intro ad had j u hj
  obtain ⟨k, r, x, hx, rfl, hr⟩ := flat_inv atmV 3 (fun _ => rfl) l j u hj
  have hk : k < l.length := (List.getElem?_eq_some_iff.1 hx).1
  rw [h.ha (ne_nil hk)] at had
  cases had
  have hC := h.hc k x hx
  rw [Addr.add_lit, ← Nat.add_assoc]
  match r, hr with
  | 0, hr => simp [atmV] at hr; subst hr; exact hC.c0
  | 1, hr => simp [atmV] at hr; subst hr; exact hC.c1
  | 2, hr => simp [atmV] at hr; subst hr; exact hC.c2
  | r + 3, hr => simp [atmV] at hr

theorem ins_one (l : List Ins) : ∀ u ∈ l.flatMap insV, u.oneCell' = true := by
  intro u hu
  obtain ⟨x, _, hx⟩ := List.mem_flatMap.1 hu
  simp [insV] at hx
  rcases hx with rfl | rfl | rfl | rfl | rfl <;> rfl
theorem atm_one (l : List Atm) : ∀ u ∈ l.flatMap atmV, u.oneCell' = true := by
  intro u hu
  obtain ⟨x, _, hx⟩ := List.mem_flatMap.1 hu
  simp [atmV] at hx
  rcases hx with rfl | rfl | rfl <;> rfl

theorem owns_ins {w : World} {base : Nat} {e : TypeId} {v : Value} {l : List Ins} (hl : l.length * 40 ≤ 140737488351232) (h : w.ownsRow base e 5 v l.length (l.flatMap insV)) : InsAt w v l := by
  obtain ⟨ao, b, off, cap, hs, _⟩ := owns_read (C := InsC) insV 5 (fun _ => rfl) (fun b off x hx => ⟨hx 0 _ rfl, hx 1 _ rfl, hx 2 _ rfl, hx 3 _ rfl, hx 4 _ rfl⟩) h
  exact ⟨hl, ao, b, off, cap, hs⟩
theorem owns_atm {w : World} {base : Nat} {e : TypeId} {v : Value} {l : List Atm} (hl : l.length * 24 ≤ 140737488351232) (h : w.ownsRow base e 3 v l.length (l.flatMap atmV)) : AtmAt w v l := by
  obtain ⟨ao, b, off, cap, hs, _⟩ := owns_read (C := AtmC) atmV 3 (fun _ => rfl) (fun b off x hx => ⟨hx 0 _ rfl, hx 1 _ rfl, hx 2 _ rfl⟩) h
  exact ⟨hl, ao, b, off, cap, hs⟩

/-- The form of what is owned. -/
theorem own_form {w : World} {base : Nat} {e : TypeId} {size : Nat} {v : Value} {n : Nat} {xs : List Value} (h : w.ownsRow base e size v n xs) : ∃ ao cap, v = .slice ao n cap ∧ (ao = none ∨ ∃ g, ao = some ⟨g, 0, none⟩ ∧ base ≤ g ∧ g < w.heap.size) := by
  rcases h.2 with ⟨rfl, rfl⟩ | ⟨g, cap, cur, rfl, hg, hh, _⟩
  · exact ⟨none, 0, rfl, .inl rfl⟩
  · exact ⟨_, cap, rfl, .inr ⟨g, rfl, hg, (Array.getElem?_eq_some_iff.1 hh).1⟩⟩

theorem keep_frozen' {w w' : World} (hb : Below w.heap.size w w') {b off : Nat} (h : b < w.heap.size) : w'.frozen? ⟨b, off, none⟩ = w.frozen? ⟨b, off, none⟩ := hb.frozen (p := ⟨b, off, none⟩) h

theorem cell_heap {w w' : World} {b off : Nat} {u : Value} (hs : w'.heap[b]? = w.heap[b]?) (h : w.cell? ⟨b, off, none⟩ = some u) : w'.cell? ⟨b, off, none⟩ = some u := (World.cell?_of_block (w := w) hs).trans h

/-- A thread's instructions stay while their own block stays. -/
theorem InsAt.other {w w' : World} {v : Value} {l : List Ins} (h : InsAt w v l) (hs : ∀ b, v.ownBlock = some b → w'.heap[b]? = w.heap[b]?) : InsAt w' v l := by
  obtain ⟨h0, ao, b, off, cap, hv, ha, hn, hc⟩ := h
  refine ⟨h0, ao, b, off, cap, hv, ha, hn, fun k x hx => ?_⟩
  have hk : k < l.length := (List.getElem?_eq_some_iff.1 hx).1
  have hb := hs b (by rw [hv, ha (ne_nil hk)]; rfl)
  obtain ⟨c0, c1, c2, c3, c4⟩ := hc k x hx
  exact ⟨cell_heap hb c0, cell_heap hb c1, cell_heap hb c2, cell_heap hb c3, cell_heap hb c4⟩

theorem own_other {w w' : World} {base : Nat} {e : TypeId} {size : Nat} {v : Value} {n : Nat} {xs : List Value} (h : w.ownsRow base e size v n xs) (hs : ∀ b, v.ownBlock = some b → w'.heap[b]? = w.heap[b]?) : w'.ownsRow base e size v n xs := by
  refine ⟨h.1, ?_⟩
  rcases h.2 with h2 | ⟨g, cap, cur, hv, hg, hh, r⟩
  · exact Or.inl h2
  · exact Or.inr ⟨g, cap, cur, hv, hg, by rw [hs g (by rw [hv]; rfl)]; exact hh, r⟩

theorem cell_new {W : World} {cs : Array Value} {t : TypeId} {j n : Nat} {v : Value} (hn : n = W.heap.size) (h : cs[j]? = some v) : (W.alloc (.cells cs t)).cell? ⟨n, j, none⟩ = some v := by
  subst hn
  rw [cell_of_row _ _ j cs t (0, 0) (heap_alloc_new W _)]
  exact h
theorem frozen_new {W : World} {cs : Array Value} {t : TypeId} {j n : Nat} (hn : n = W.heap.size) : (W.alloc (.cells cs t)).frozen? ⟨n, j, none⟩ = false := by
  subst hn
  simp

theorem AtmAt.other {w w' : World} {v : Value} {l : List Atm} (h : AtmAt w v l) (hs : ∀ b, v.ownBlock = some b → w'.heap[b]? = w.heap[b]?) : AtmAt w' v l := by
  obtain ⟨h0, ao, b, off, cap, hv, ha, hn, hc⟩ := h
  refine ⟨h0, ao, b, off, cap, hv, ha, hn, fun k x hx => ?_⟩
  have hk : k < l.length := (List.getElem?_eq_some_iff.1 hx).1
  have hb := hs b (by rw [hv, ha (ne_nil hk)]; rfl)
  obtain ⟨c0, c1, c2⟩ := hc k x hx
  exact ⟨cell_heap hb c0, cell_heap hb c1, cell_heap hb c2⟩

/-- Copy's own memory: the boxed test, the result, the copy so far (block B, its first field the slice of threads). -/
structure CopySt (w wr : World) (vt vc : Value) (fa : Bool) (B : Nat) (V : Value) (k : Nat) (T : List (List Ins)) (vs : List Value) : Prop where
  below : Below w.heap.size w wr
  hB : B = w.heap.size + 2
  b0 : wr.cell? ⟨w.heap.size, 0, none⟩ = some vt
  b2 : wr.cell? ⟨w.heap.size, 2, none⟩ = some vc
  r0 : wr.cell? ⟨w.heap.size + 1, 0, none⟩ = some (.slice none 0 0)
  r1 : wr.cell? ⟨w.heap.size + 1, 1, none⟩ = some (.bool false)
  r2 : wr.cell? ⟨w.heap.size + 1, 2, none⟩ = some (.slice none 0 0)
  q0 : wr.frozen? ⟨w.heap.size + 1, 0, none⟩ = false
  q1 : wr.frozen? ⟨w.heap.size + 1, 1, none⟩ = false
  q2 : wr.frozen? ⟨w.heap.size + 1, 2, none⟩ = false
  f0 : wr.cell? ⟨B, 0, none⟩ = some V
  f1 : wr.cell? ⟨B, 1, none⟩ = some (.bool fa)
  f2 : wr.cell? ⟨B, 2, none⟩ = some (.slice none 0 0)
  z0 : wr.frozen? ⟨B, 0, none⟩ = false
  z1 : wr.frozen? ⟨B, 1, none⟩ = false
  z2 : wr.frozen? ⟨B, 2, none⟩ = false
  lb : B < wr.heap.size
  len : vs.length = k
  own : wr.ownsRow (B + 1) 34 1 V k vs
  rows : ∀ j l, j < k → T[j]? = some l → ∃ u, vs[j]? = some u ∧ InsAt wr u l ∧ ∀ b, u.ownBlock = some b → B < b ∧ b < wr.heap.size ∧ V.ownBlock ≠ some b

theorem copySt_init (w : World) (vt vc : Value) (fa : Bool) (T : List (List Ins)) (t : TypeId) :
    CopySt w (((w.alloc (.cells #[vt, .bool fa, vc] t)).alloc (.cells #[.slice none 0 0, .bool false, .slice none 0 0] t)).alloc (.cells #[.slice none 0 0, .bool fa, .slice none 0 0] t)) vt vc fa (w.heap.size + 1 + 1) (.slice none 0 0) 0 T [] := by
  have k1 := below_alloc (w.alloc (.cells #[vt, .bool fa, vc] t)) (.cells #[.slice none 0 0, .bool false, .slice none 0 0] t)
  have k2 := below_alloc ((w.alloc (.cells #[vt, .bool fa, vc] t)).alloc (.cells #[.slice none 0 0, .bool false, .slice none 0 0] t)) (.cells #[.slice none 0 0, .bool fa, .slice none 0 0] t)
  have k := below_more k1 k2
  have e2 : ((w.alloc (.cells #[vt, .bool fa, vc] t)).alloc (.cells #[.slice none 0 0, .bool false, .slice none 0 0] t)).heap.size = w.heap.size + 1 + 1 := by simp
  refine ⟨(below_two _ _ _).alloc (by simp; omega) _, rfl, keep_cell k (by simp), keep_cell k (by simp), keep_cell k2 (by simp), keep_cell k2 (by simp), keep_cell k2 (by simp), ?_, ?_, ?_, cell_new e2.symm rfl, cell_new e2.symm rfl, cell_new e2.symm rfl, frozen_new e2.symm, frozen_new e2.symm, frozen_new e2.symm, by simp, rfl, World.ownsRow_nil _ _ _ _, fun j l hj => by omega⟩
  all_goals exact (keep_frozen' k2 (by simp)).trans (by simp)

theorem CopySt.grown {w wr w1 : World} {vt vc : Value} {fa : Bool} {B : Nat} {V : Value} {k : Nat} {T : List (List Ins)} {vs : List Value} (h : CopySt w wr vt vc fa B V k T vs) (hg : wr.grownBy w1 none) : CopySt w w1 vt vc fa B V k T vs := by
  have hb : Below wr.heap.size wr w1 := ⟨hg.os, hg.tape, hg.output, hg.size, fun i hi => hg.block i hi (by simp)⟩
  exact ⟨below_more h.below hb, h.hB, keep_cell hb h.b0, keep_cell hb h.b2, keep_cell hb h.r0, keep_cell hb h.r1, keep_cell hb h.r2, (keep_frozen' hb (World.block_lt_of_cell? _ _ h.r0)).trans h.q0, (keep_frozen' hb (World.block_lt_of_cell? _ _ h.r1)).trans h.q1, (keep_frozen' hb (World.block_lt_of_cell? _ _ h.r2)).trans h.q2,
    keep_cell hb h.f0, keep_cell hb h.f1, keep_cell hb h.f2, (keep_frozen' hb h.lb).trans h.z0, (keep_frozen' hb h.lb).trans h.z1, (keep_frozen' hb h.lb).trans h.z2, Nat.lt_of_lt_of_le h.lb hb.size, h.len, own_keep h.own hb,
    fun j l hj hl => by obtain ⟨u, h1, h2, h3⟩ := h.rows j l hj hl; exact ⟨u, h1, h2.keep hb, fun b hb' => ⟨(h3 b hb').1, Nat.lt_of_lt_of_le (h3 b hb').2.1 hb.size, (h3 b hb').2.2⟩⟩⟩

/-- One thread more. -/
theorem CopySt.step {w w1 w2 : World} {vt vc : Value} {fa : Bool} {B : Nat} {V V' : Value} {k : Nat} {T : List (List Ins)} {vs : List Value} (h : CopySt w w1 vt vc fa B V k T vs)
    {l : List Ins} (hx : T[k]? = some l) {u : Value} {o : Obj} (hu : InsAt w1 u l) (hub : ∀ b, u.ownBlock = some b → B < b ∧ b < w1.heap.size ∧ V.ownBlock ≠ some b)
    (hown : w2.ownsRow (B + 1) 34 1 V' (k + 1) (vs ++ [u])) (hg : (w1.alloc o).grownBy w2 V.ownBlock) (hap : ∀ g, V'.ownBlock = some g → V.ownBlock = some g ∨ w1.heap.size + 1 ≤ g) :
    CopySt w (w2.setCell ⟨B, 0, none⟩ V') vt vc fa B V' (k + 1) T (vs ++ [u]) := by
  have hVb : ∀ g, V.ownBlock = some g → B + 1 ≤ g ∧ g < w1.heap.size := fun g hg => h.own.lt g hg
  have hB := h.hB
  have hBl := h.lb
  have key : ∀ b, b < w1.heap.size → V.ownBlock ≠ some b → b ≠ B → (w2.setCell ⟨B, 0, none⟩ V').heap[b]? = w1.heap[b]? := by
    intro b hb hne hnB
    rw [Below.heap_setCell _ _ _ _ hnB, hg.block b (by simp; omega) (fun e => hne e.symm), Below.heap_alloc _ _ _ hb]
  have hBk : w2.heap[B]? = w1.heap[B]? := by
    rw [hg.block B (by simp; omega) (fun e => by have := (hVb B e.symm).1; omega), Below.heap_alloc _ _ _ hBl]
  have kc : ∀ b off x, b < w.heap.size + 2 → w1.cell? ⟨b, off, none⟩ = some x → (w2.setCell ⟨B, 0, none⟩ V').cell? ⟨b, off, none⟩ = some x := fun b off x hb hc =>
    cell_heap (key b (by omega) (fun e => by have := (hVb b e).1; omega) (by omega)) hc
  have kf : ∀ b off, b < w.heap.size + 2 → (w2.setCell ⟨B, 0, none⟩ V').frozen? ⟨b, off, none⟩ = w1.frozen? ⟨b, off, none⟩ := fun b off hb =>
    World.frozen?_of_block (w := w1) (key b (by omega) (fun e => by have := (hVb b e).1; omega) (by omega))
  have f0 : w2.cell? ⟨B, 0, none⟩ = some V := cell_heap hBk h.f0
  have f1 : w2.cell? ⟨B, 1, none⟩ = some (.bool fa) := cell_heap hBk h.f1
  have f2 : w2.cell? ⟨B, 2, none⟩ = some (.slice none 0 0) := cell_heap hBk h.f2
  have z0 : w2.frozen? ⟨B, 0, none⟩ = false := (World.frozen?_of_block (w := w1) hBk).trans h.z0
  have z1 : w2.frozen? ⟨B, 1, none⟩ = false := (World.frozen?_of_block (w := w1) hBk).trans h.z1
  have z2 : w2.frozen? ⟨B, 2, none⟩ = false := (World.frozen?_of_block (w := w1) hBk).trans h.z2
  have hsz : w1.heap.size + 1 ≤ w2.heap.size := by have := hg.size; simpa using this
  have hV' : ∀ b, V'.ownBlock = some b → B < b := fun b hb => (hown.lt b hb).1
  have hbel : Below w.heap.size w (w2.setCell ⟨B, 0, none⟩ V') := by
    refine Below.setCell ?_ (by simp; omega) _
    exact Below.grown (h.below.alloc h.below.size _) hg (by have := h.below.size; simp; omega) (fun kk e => by have := (hVb kk e).1; omega)
  refine ⟨hbel, h.hB, kc _ _ _ (by omega) h.b0, kc _ _ _ (by omega) h.b2, kc _ _ _ (by omega) h.r0, kc _ _ _ (by omega) h.r1, kc _ _ _ (by omega) h.r2,
    (kf _ _ (by omega)).trans h.q0, (kf _ _ (by omega)).trans h.q1, (kf _ _ (by omega)).trans h.q2, ?_, ?_, ?_, ?_, ?_, ?_, by simp [World.setCell]; omega, by simp [h.len], ?_, ?_⟩
  · simp [go_sem, f0]
  · simp [go_sem, f1]
  · simp [go_sem, f2]
  · simp [go_sem, z0]
  · simp [go_sem, z1]
  · simp [go_sem, z2]
  · exact own_other hown (fun b hb => Below.heap_setCell _ _ _ _ (by have := hV' b hb; simp; omega))
  · intro j m hj hm
    by_cases hjk : j < k
    · obtain ⟨x, h1, h2, h3⟩ := h.rows j m hjk hm
      refine ⟨x, by rw [List.getElem?_append_left (by rw [h.len]; exact hjk)]; exact h1, ?_, ?_⟩
      · refine h2.other (fun b hb => ?_)
        by_cases hbl : b < w1.heap.size
        · exact key b hbl (h3 b hb).2.2 (by have := (h3 b hb).1; omega)
        · have := (h3 b hb).2.1; omega
      · intro b hb
        have hb2 := (h3 b hb).2.1
        refine ⟨(h3 b hb).1, by simp [World.setCell]; omega, fun e => ?_⟩
        rcases hap b e with e' | e'
        · exact (h3 b hb).2.2 e'
        · omega
    · have : j = k := by omega
      subst this
      rw [hx] at hm
      cases hm
      refine ⟨u, by rw [List.getElem?_append_right (by rw [h.len]; omega), h.len]; simp, ?_, ?_⟩
      · exact hu.other (fun b hb => key b (hub b hb).2.1 (hub b hb).2.2 (by have := (hub b hb).1; omega))
      · intro b hb
        have hb2 := (hub b hb).2.1
        refine ⟨(hub b hb).1, by simp [World.setCell]; omega, fun e => ?_⟩
        rcases hap b e with e' | e'
        · exact (hub b hb).2.2 e'
        · have := (hub b hb).2.1; omega

/-- What was copied, read as a test. -/
theorem CopySt.done {w w1 w' : World} {vt vc : Value} {fa : Bool} {B : Nat} {V : Value} {T : List (List Ins)} {vs : List Value} (h : CopySt w w1 vt vc fa B V T.length T vs) (hT : T.length * 24 ≤ 140737488351232)
    (hs : ∀ b : Nat, b ≠ B → b ≠ w.heap.size + 1 → w'.heap[b]? = w1.heap[b]?) : ThrAt w' V T := by
  have hB := h.hB
  have hV : ∀ b, V.ownBlock = some b → w'.heap[b]? = w1.heap[b]? := fun b hb => hs b (by have := (h.own.lt b hb).1; omega) (by have := (h.own.lt b hb).1; omega)
  have ho := own_other h.own hV
  have hr : ∀ (j : Nat) (l : List Ins), T[j]? = some l → ∃ u, vs[j]? = some u ∧ InsAt w' u l := by
    intro j l hj
    obtain ⟨u, h1, h2, h3⟩ := h.rows j l (List.getElem?_eq_some_iff.1 hj).1 hj
    exact ⟨u, h1, h2.other (fun b hb => hs b (by have := (h3 b hb).1; omega) (by have := (h3 b hb).1; omega))⟩
  refine ⟨hT, ?_⟩
  rcases ho.2 with ⟨hv, hn⟩ | ⟨g, cap, cur, hv, hg, hh, _⟩
  · have hT0 : T = [] := List.eq_nil_of_length_eq_zero hn
    subst hT0
    exact ⟨none, 0, 0, 0, hv, fun h => absurd rfl h, fun _ => ⟨rfl, rfl⟩, fun k x h => by simp at h⟩
  · refine ⟨_, g, 0, cap, hv, fun _ => rfl, fun h => by simp at h, fun k l hk => ?_⟩
    obtain ⟨u, h1, h2⟩ := hr k l hk
    have := ho.cells (g := g) (by rw [hv]; rfl) k u h1
    rw [Addr.add_lit] at this
    exact ⟨u, by rw [Nat.mul_one]; exact this, h2⟩

set_option maxHeartbeats 2000000 in
theorem copy_any (T : List (List Ins)) (fa : Bool) (c : List Atm) (v vt vc : Value) (w : World) (h : TestAt w v T fa c vt vc) :
    Calls Try.prog 27 #[v] w fun e w' => ∃ vt' vc', e = .returned (.agg #[vt', .bool fa, vc']) ∧ TestAt w' (.agg #[vt', .bool fa, vc']) T fa c vt' vc' ∧ Below w.heap.size w w' := by
  obtain ⟨hv, ht, ⟨hc0, ao', b', off', cap', hcv, hca, hcn, hcc⟩⟩ := h
  obtain ⟨ht0, ao, b, off, cap, htv, hta, _, htc⟩ := ht.opened
  subst hv htv hcv
  obtain ⟨i5, hi5, hy0, hy1, hy2⟩ := info_parts Try.infoInstr
  have HI5 : Hid (Try.prog.info? 37 = some i5 ∧ i5.zero = some (.agg #[.int .i64 0, .int .i64 0, .int .i64 0, .int .i64 0, .int .i64 0]) ∧ i5.size = 5 ∧ i5.bytes = 40) := ⟨hi5, hy0, hy1, hy2⟩
  obtain ⟨i1, hi1, hx0, hx1, hx2⟩ := info_parts Try.infoInstrs
  have HI1 : Hid (Try.prog.info? 34 = some i1 ∧ i1.zero = some (.slice none 0 0) ∧ i1.size = 1 ∧ i1.bytes = 24) := ⟨hi1, hx0, hx1, hx2⟩
  obtain ⟨i3, hi3, hw0, hw1, hw2⟩ := info_parts Try.infoAtom
  have HI3 : Hid (Try.prog.info? 101 = some i3 ∧ i3.zero = some (.agg #[.int .i64 0, .int .i64 0, .int .i64 0]) ∧ i3.size = 3 ∧ i3.bytes = 24) := ⟨hi3, hw0, hw1, hw2⟩
  clear hi5 hy0 hy1 hy2 hi1 hx0 hx1 hx2 hi3 hw0 hw1 hw2
  go_enter Try.func27, Try.ntmps27
  go_wp2_with fail
  have HS0 : Hid (CopySt w _ _ _ fa (w.heap.size + 1 + 1) (.slice none 0 0) 0 T []) := copySt_init w (.slice ao T.length cap) (.slice ao' c.length cap') fa T 25
  generalize hB : w.heap.size + 1 + 1 = B
  have HB2 : Hid (B = w.heap.size + 2) := by unfold Hid; omega
  have hB3 : w.heap.size + 1 < B := by omega
  have hB4 : w.heap.size < B := by omega
  clear hB
  go_loopw [4] (fun i wr => ∃ (k : Nat) (aoV : Option Addr) (capV : Nat) (vs : List Value), k ≤ T.length ∧ i = .int .i64 k ∧ CopySt w wr (.slice ao T.length cap) (.slice ao' c.length cap') fa B (.slice aoV k capV) k T vs) (fun i _ => T.length - (intOf i).toNat)
  case atStart => rw [HB2.out]; exact ⟨0, none, 0, [], Nat.zero_le _, rfl, HS0.out⟩
  case round =>
    obtain ⟨k, aoV, capV, vs, hk, rfl, S⟩ := hrel
    have HS : Hid (CopySt w wr (.slice ao T.length cap) (.slice ao' c.length cap') fa B (.slice aoV k capV) k T vs) := S
    obtain ⟨-, -, e0, e2, r0, r1, r2, q0, q1, q2, f0, f1, f2, z0, z1, z2, lb, -, -, -⟩ := S
    by_cases hlt : k < T.length
    · obtain ⟨l, hx⟩ := get_of_lt hlt
      obtain ⟨hbl, ao2, cap2, c0, hil⟩ := htc k l hx
      obtain rfl := hta (ne_nil hlt)
      have c1 := keep_cell HS.out.below c0
      have HIL : Hid (InsAt wr (.slice ao2 l.length cap2) l) := hil.keep HS.out.below
      obtain ⟨hl40, ao3, b3, off3, cap3, hs3⟩ := HIL.out
      have hv3 := hs3.hv
      simp only [Value.slice.injEq] at hv3
      obtain ⟨rfl, -, rfl⟩ := hv3
      have HS3 : Hid (SlAt wr 5 InsC (.slice ao2 l.length cap2) l ao2 b3 off3 cap2) := hs3
      have HX : Hid (T[k]? = some l) := hx
      have HTC : Hid (∀ k l, T[k]? = some l → b < w.heap.size ∧ ∃ ao' cap', w.cell? ⟨b, off + k, none⟩ = some (.slice ao' l.length cap') ∧ InsAt w (.slice ao' l.length cap') l) := htc
      have HCC : Hid (∀ k x, c[k]? = some x → AtmC w b' (off' + k * 3) x) := hcc
      clear hx hs3 hil c0 htc hcc HS0 ht
      go_wp2_with (at_builtin; refine append_new _ rfl (.tmp 16) (.tmp 21) 34 rfl wr.heap.size 37 i5 (.agg #[.int .i64 0, .int .i64 0, .int .i64 0, .int .i64 0, .int .i64 0]) 5 40 Try.underlying34 HI5.out.1 HI5.out.2.1 HI5.out.2.2.1 HI5.out.2.2.2 rfl (by decide) (.slice none 0 0) 0 [] rfl (World.ownsRow_nil _ _ _ _) ao2 l.length cap2 (l.flatMap insV) rfl (fun h => ⟨by rw [(HS3.out.hn h).1]; rfl, (HS3.out.hn h).2⟩) (flat_len insV 5 (fun _ => rfl) l) (ins_cells HS3.out) (ins_one l) (by unfold maxLen; omega) (by omega) (Nat.le_refl _) ?_)
      intro v1 w1 hown1 hgrow1 _
      have hap1 : ∀ b, v1.ownBlock = some b → wr.heap.size ≤ b ∧ b < w1.heap.size := fun b hb => hown1.lt b hb
      obtain ⟨aoN, capN, hvN, _⟩ := own_form hown1
      have hgN : wr.grownBy w1 none := hgrow1
      have S1 := HS.out.grown hgN
      have hub : ∀ b, v1.ownBlock = some b → B < b ∧ b < w1.heap.size ∧ (Value.slice aoV k capV).ownBlock ≠ some b := fun b hb => ⟨by have := (hap1 b hb).1; omega, (hap1 b hb).2, fun e => by have := (HS.out.own.lt b e).2; have := (hap1 b hb).1; omega⟩
      have hIn := owns_ins hl40 hown1
      subst hvN
      have HS1 : Hid (CopySt w w1 (.slice (some ⟨b, off, none⟩) T.length cap) (.slice ao' c.length cap') fa B (.slice aoV k capV) k T vs) := S1
      have HU : Hid (InsAt w1 (.slice aoN l.length capN) l ∧ ∀ b, (Value.slice aoN l.length capN).ownBlock = some b → B < b ∧ b < w1.heap.size ∧ (Value.slice aoV k capV).ownBlock ≠ some b) := ⟨hIn, hub⟩
      clear hown1 hgrow1 hap1 hgN hub hIn e0 e2 r0 r1 r2 q0 q1 q2 f0 f1 f2 z0 z1 z2 lb c1 HS HIL HS3
      obtain ⟨-, -, e0, e2, r0, r1, r2, q0, q1, q2, f0, f1, f2, z0, z1, z2, lb, -, -, -⟩ := S1
      go_wp2_with (at_builtin; refine append_new _ rfl (.tmp 24) (.tmp 26) 22 rfl (B + 1) 34 i1 (.slice none 0 0) 1 24 Try.underlying22 HI1.out.1 HI1.out.2.1 HI1.out.2.2.1 HI1.out.2.2.2 rfl (by decide) (.slice aoV k capV) k vs rfl (HS1.out.own.alloc _) (some ⟨w1.heap.size, 0, none⟩) 1 1 [.slice aoN l.length capN] rfl (fun h => by cases h) rfl (fun ad had => by cases had; exact new_one rfl) (by simp [Value.oneCell']) (by unfold maxLen; omega) (by omega) (by simp; omega) ?_)
      intro V2 w2 hown2 hgrow2 hap2
      have hap3 : ∀ g, V2.ownBlock = some g → (Value.slice aoV k capV).ownBlock = some g ∨ w1.heap.size + 1 ≤ g := by simpa using hap2
      obtain ⟨aoW, capW, hvW, _⟩ := own_form hown2
      subst hvW
      have HS2 : Hid (CopySt w (w2.setCell ⟨B, 0, none⟩ (.slice aoW (k + 1) capW)) (.slice (some ⟨b, off, none⟩) T.length cap) (.slice ao' c.length cap') fa B (.slice aoW (k + 1) capW) (k + 1) T (vs ++ [.slice aoN l.length capN])) :=
        HS1.out.step HX.out HU.out.1 HU.out.2 hown2 hgrow2 hap3
      have hBk : w2.heap[B]? = w1.heap[B]? := by
        rw [hgrow2.block B (by simp; omega) (fun e => by have := (HS1.out.own.lt B e.symm).1; omega), Below.heap_alloc _ _ _ lb]
      have y0 := cell_heap hBk f0
      have y3 : w2.frozen? ⟨B, 0, none⟩ = false := (World.frozen?_of_block (w := w1) hBk).trans z0
      clear hown2 hgrow2 hap2 hap3 hBk e0 e2 r0 r1 r2 q0 q1 q2 f0 f1 f2 z0 z1 z2 lb HS1 HU
      go_wp2_with fail
      go_roundw
      case measure => simp [intOf]; omega
      case rel => exact ⟨k + 1, aoW, capW, _, by omega, by go_num, HS2.out⟩
    · have hkT : k = T.length := by omega
      subst hkT
      have HCS : Hid (SlAt wr 3 AtmC (.slice ao' c.length cap') c ao' b' off' cap') := (SlAt.keep atmC_keeps ⟨rfl, hca, hcn, hcc⟩ HS.out.below)
      clear htc hta hca hcn hcc HS0 ht
      go_wp2_with (at_builtin; refine append_new _ rfl (.tmp 30) (.tmp 32) 23 rfl wr.heap.size 101 i3 (.agg #[.int .i64 0, .int .i64 0, .int .i64 0]) 3 24 Try.underlying23 HI3.out.1 HI3.out.2.1 HI3.out.2.2.1 HI3.out.2.2.2 rfl (by decide) (.slice none 0 0) 0 [] rfl (World.ownsRow_nil _ _ _ _) ao' c.length cap' (c.flatMap atmV) rfl (fun h => ⟨by rw [(HCS.out.hn h).1]; rfl, (HCS.out.hn h).2⟩) (flat_len atmV 3 (fun _ => rfl) c) (atm_cells HCS.out) (atm_one c) (by unfold maxLen; omega) (by omega) (Nat.le_refl _) ?_)
      intro v1 w1 hown1 hgrow1 _
      obtain ⟨aoN, capN, hvN, _⟩ := own_form hown1
      have hlt1 := fun b hb => hown1.lt b hb
      have S1 := HS.out.grown hgrow1
      subst hvN
      have hAt := owns_atm hc0 hown1
      have HS1 : Hid (CopySt w w1 (.slice ao T.length cap) (.slice ao' c.length cap') fa B (.slice aoV T.length capV) T.length T vs) := S1
      have HU : Hid (AtmAt w1 (.slice aoN c.length capN) c ∧ ∀ b, (Value.slice aoN c.length capN).ownBlock = some b → wr.heap.size ≤ b ∧ b < w1.heap.size) := ⟨hAt, hlt1⟩
      clear hown1 hgrow1 hlt1 hAt e0 e2 r0 r1 r2 q0 q1 q2 f0 f1 f2 z0 z1 z2 HCS
      have lbr := lb
      clear lb
      obtain ⟨-, -, e0, e2, r0, r1, r2, q0, q1, q2, f0, f1, f2, z0, z1, z2, lb, -, -, -⟩ := S1
      go_wp2_with fail
      have hs : ∀ x : Nat, x ≠ B → x ≠ w.heap.size + 1 → ((((w1.setCell ⟨B, 2, none⟩ (.slice aoN c.length capN)).setCell ⟨w.heap.size + 1, 0, none⟩ (.slice aoV T.length capV)).setCell ⟨w.heap.size + 1, 1, none⟩ (.bool fa)).setCell ⟨w.heap.size + 1, 2, none⟩ (.slice aoN c.length capN)).heap[x]? = w1.heap[x]? := by
        intro x h1 h2
        rw [Below.heap_setCell _ _ _ _ h2, Below.heap_setCell _ _ _ _ h2, Below.heap_setCell _ _ _ _ h2, Below.heap_setCell _ _ _ _ h1]
      refine bodyPost_ret (v := .agg #[.slice aoV T.length capV, .bool fa, .slice aoN c.length capN]) (by simp [results, Try.results27, go_sem, *]) rfl
        ⟨_, _, rfl, ⟨rfl, HS1.out.done ht0 hs, HU.out.1.other (fun x hx => hs x (by have := (HU.out.2 x hx).1; omega) (by have := (HU.out.2 x hx).1; omega))⟩, ?_⟩
      exact (((HS1.out.below.setCell (by simp; omega) _).setCell (by simp) _).setCell (by simp) _).setCell (by simp) _

end Go.Proofs.Ytomijmikkbhgmab

namespace Go.Proofs.Ytomijmikkbhgmab

def facL (E : List Evt) (j : Nat) : Nat := match j with
  | 0 => fac (wrs E 0 0).length * (fac (wrs E 0 1).length * fac (wrs E 0 2).length)
  | 1 => fac (wrs E 0 1).length * fac (wrs E 0 2).length
  | 2 => fac (wrs E 0 2).length
  | _ => 1

theorem facL_pos (E : List Evt) (j : Nat) : 1 ≤ facL E j := by
  have a := fac_pos (wrs E 0 0).length; have b := fac_pos (wrs E 0 1).length; have c := fac_pos (wrs E 0 2).length
  have bc := Nat.mul_le_mul b c
  have abc := Nat.mul_le_mul a bc
  unfold facL; split <;> omega

theorem facL_step (E : List Evt) (j : Nat) (h : j < 3) : facL E j = fac (wrs E 0 (j : Int)).length * facL E (j + 1) := by
  match j, h with
  | 0, _ => rfl
  | 1, _ => rfl
  | 2, _ => show fac _ = fac _ * 1; rw [Nat.mul_one]; rfl

theorem facL_three (E : List Evt) : facL E 3 = 1 := rfl
theorem sizeN_eq (E : List Evt) : sizeN E = prodR E E * facL E 0 := rfl

def prodUp : Nat → Nat → Nat
  | _, 0 => 1
  | k, c + 1 => k * prodUp (k + 1) c

theorem prodUp_pos (k c : Nat) (h : 1 ≤ k) : 1 ≤ prodUp k c := by
  induction c generalizing k with
  | zero => exact Nat.le_refl 1
  | succ c ih => have := Nat.mul_le_mul h (ih (k + 1) (by omega)); unfold prodUp; omega

theorem prodUp_fac (k c : Nat) : prodUp (k + 1) c * fac k = fac (k + c) := by
  induction c generalizing k with
  | zero => simp [prodUp]
  | succ c ih =>
    have := ih (k + 1)
    rw [show k + (c + 1) = k + 1 + c by omega, ← this, show fac (k + 1) = (k + 1) * fac k from rfl, show prodUp (k + 1) (c + 1) = (k + 1) * prodUp (k + 1 + 1) c from rfl]
    rw [Nat.mul_comm (k + 1) (prodUp (k + 1 + 1) c), Nat.mul_assoc]

theorem prodUp_two (m : Nat) : prodUp 2 (m + 1 - 2) = fac m := by
  cases m with
  | zero => rfl
  | succ m =>
    have := prodUp_fac 1 m
    rw [show m + 1 + 1 - 2 = m by omega]
    rw [show fac 1 = 1 from rfl, Nat.mul_one, Nat.add_comm 1 m] at this
    exact this

theorem prodUp_step {k m : Nat} (h : k ≤ m) : prodUp k (m + 1 - k) = k * prodUp (k + 1) (m + 1 - (k + 1)) := by
  rw [show m + 1 - k = (m + 1 - (k + 1)) + 1 by omega]; rfl

theorem prodUp_done {k m : Nat} (h : ¬ k ≤ m) : prodUp k (m + 1 - k) = 1 := by
  rw [show m + 1 - k = 0 by omega]; rfl

theorem cap2_big {n f : Nat} (h : 2000 < n) (hf : 1 ≤ f) : cap2 (n * f) = 2001 := by
  have := Nat.mul_le_mul_left n hf
  unfold cap2; rw [if_pos (by omega)]

theorem prodR_read {E : List Evt} {x : Evt} (h : (x.kind == 0) = true) (R : List Evt) : prodR E (x :: R) = (1 + (wrs E 0 x.loc).length) * prodR E R := by rw [prodR, if_pos h]
theorem prodR_not {E : List Evt} {x : Evt} (h : (x.kind == 0) = false) (R : List Evt) : prodR E (x :: R) = prodR E R := by rw [prodR, if_neg (by simp [h]), Nat.one_mul]

theorem mul_bd {n L a b : Nat} (hn : n ≤ a) (hL : L ≤ b) : (0 : Int) ≤ (n : Int) * (L : Int) ∧ (n : Int) * (L : Int) ≤ ((a * b : Nat) : Int) := by
  have h := Nat.mul_le_mul hn hL
  refine ⟨Int.mul_nonneg (by omega) (by omega), ?_⟩
  have : (n : Int) * (L : Int) = ((n * L : Nat) : Int) := by simp
  omega

theorem mul_bd1 {n L a b : Nat} (hn : n ≤ a) (hL : L ≤ b) : (0 : Int) ≤ (n : Int) * (1 + (L : Int)) ∧ (n : Int) * (1 + (L : Int)) ≤ ((a * (1 + b) : Nat) : Int) := by
  have h := @mul_bd n (1 + L) a (1 + b) hn (by omega)
  rw [show ((1 + L : Nat) : Int) = 1 + (L : Int) by simp] at h
  exact h

end Go.Proofs.Ytomijmikkbhgmab

namespace Go.Proofs.Ytomijmikkbhgmab

/-- What each read may read from, read by read. -/
def rdo (E : List Evt) : List Evt → List (List Int)
  | [] => []
  | x :: R => if x.kind == 0 then (-1 :: wrs E 0 x.loc) :: rdo E R else rdo E R

def plen : List (List Int) → Nat
  | [] => 1
  | o :: os => o.length * plen os

theorem plen_rdo (E R : List Evt) : plen (rdo E R) = prodR E R := by
  induction R with
  | nil => rfl
  | cons x R ih =>
    unfold rdo prodR
    cases x.kind == 0
    · simp [ih]
    · simp [plen, ih, Nat.add_comm]

/-- All ways to choose one of each list, the first list slowest. -/
def allF : List (List Int) → List (List Int)
  | [] => [[]]
  | o :: os => o.flatMap fun a => (allF os).map fun r => a :: r

theorem allF_len (os : List (List Int)) : (allF os).length = plen os := by
  induction os with
  | nil => rfl
  | cons o os ih =>
    unfold allF plen
    rw [← ih]
    induction o with
    | nil => simp
    | cons a o ih2 => rw [List.flatMap_cons, List.length_append, ih2, List.length_map, List.length_cons, Nat.add_mul]; omega

/-- The choices that a number stands for. -/
def chF (n : Nat) : List (List Int) → Nat → List Int
  | [], _ => []
  | o :: os, w => o.getD (n / (w / o.length) % o.length) 0 :: chF n os (w / o.length)

theorem plen_pos {os : List (List Int)} (h : ∀ o ∈ os, 1 ≤ o.length) : 1 ≤ plen os := by
  induction os with
  | nil => exact Nat.le_refl 1
  | cons o os ih =>
    have h1 := h o (List.mem_cons_self ..)
    have h2 := ih (fun x hx => h x (List.mem_cons_of_mem _ hx))
    have := Nat.mul_le_mul h1 h2
    unfold plen; omega

/-- An entry of lists of s entries each, laid one behind the other. -/
theorem flat_at {α β : Type} (f : α → List β) (s : Nat) (l : List α) (hf : ∀ x ∈ l, (f x).length = s) (k j : Nat) (x : α) (hx : l[k]? = some x) (hj : j < s) : (l.flatMap f)[k * s + j]? = (f x)[j]? := by
  induction l generalizing k with
  | nil => simp at hx
  | cons a l ih =>
    have ha := hf a (List.mem_cons_self ..)
    cases k with
    | zero => simp at hx; subst hx; rw [List.flatMap_cons, List.getElem?_append_left (by rw [ha]; omega)]; simp
    | succ k =>
      rw [List.flatMap_cons, List.getElem?_append_right (by rw [ha, Nat.add_mul]; omega), ha]
      rw [show (k + 1) * s + j - s = k * s + j by rw [Nat.add_mul]; omega]
      exact ih (fun x hx => hf x (List.mem_cons_of_mem _ hx)) k (by simpa using hx)

theorem mod_split (a m P : Nat) : a % (m * P) = (a / P % m) * P + a % P := by
  rw [Nat.mul_comm m P, Nat.mod_mul]
  rw [Nat.mul_comm P (a / P % m)]
  omega

theorem chF_at (n : Nat) (os : List (List Int)) (h : ∀ o ∈ os, 1 ≤ o.length) (R : Nat) (_hR : 1 ≤ R) : (allF os)[n / R % plen os]? = some (chF n os (plen os * R)) := by
  induction os with
  | nil => simp [allF, plen, chF, Nat.mod_one]
  | cons o os ih =>
    have h1 := h o (List.mem_cons_self ..)
    have hos := fun x hx => h x (List.mem_cons_of_mem o hx)
    have hP := plen_pos hos
    have hw : o.length * plen os * R / o.length = plen os * R := by rw [Nat.mul_assoc]; exact Nat.mul_div_cancel_left _ h1
    have hd : n / R / plen os = n / (plen os * R) := by rw [Nat.div_div_eq_div_mul, Nat.mul_comm]
    unfold plen chF
    rw [hw, mod_split, hd]
    have hlt : n / (plen os * R) % o.length < o.length := Nat.mod_lt _ h1
    unfold allF
    rw [flat_at _ (plen os) o (fun x _ => by rw [List.length_map, allF_len]) _ _ (o.getD (n / (plen os * R) % o.length) 0) (by rw [List.getD, List.getElem?_eq_getElem hlt]; rfl) (Nat.mod_lt _ hP)]
    rw [List.getElem?_map, ih hos]
    rfl

/-! orders of a list -/
def ordN : Nat → List Int → List (List Int)
  | 0, _ => [[]]
  | m + 1, l => (List.range l.length).flatMap fun i => (ordN m (l.eraseIdx i)).map fun r => l.getD i 0 :: r

theorem ordN_len (m : Nat) (l : List Int) (h : l.length = m) : (ordN m l).length = fac m := by
  induction m generalizing l with
  | zero => rfl
  | succ m ih =>
    have key : ∀ (k : Nat), k ≤ l.length → ((List.range k).flatMap fun i => (ordN m (l.eraseIdx i)).map fun r => l.getD i 0 :: r).length = k * fac m := by
      intro k hk
      induction k with
      | zero => simp
      | succ k ihk =>
        rw [List.range_succ, List.flatMap_append, List.length_append, ihk (by omega)]
        simp only [List.flatMap_cons, List.flatMap_nil, List.append_nil, List.length_map]
        rw [ih _ (by rw [List.length_eraseIdx, if_pos (by omega)]; omega), Nat.add_mul]; omega
    unfold ordN
    rw [key l.length (Nat.le_refl _), h]
    rfl

def chO (n : Nat) : Nat → List Int → Nat → List Int
  | 0, _, _ => []
  | m + 1, l, w => l.getD (n / (w / l.length) % l.length) 0 :: chO n m (l.eraseIdx (n / (w / l.length) % l.length)) (w / l.length)

theorem chO_at (n m : Nat) (l : List Int) (h : l.length = m) (R : Nat) (_hR : 1 ≤ R) : (ordN m l)[n / R % fac m]? = some (chO n m l (fac m * R)) := by
  induction m generalizing l with
  | zero => simp [ordN, fac, chO, Nat.mod_one]
  | succ m ih =>
    have h1 : 1 ≤ l.length := by omega
    have hw : (m + 1) * fac m * R / (m + 1) = fac m * R := by rw [Nat.mul_assoc]; exact Nat.mul_div_cancel_left _ (by omega)
    have hd : n / R / fac m = n / (fac m * R) := by rw [Nat.div_div_eq_div_mul, Nat.mul_comm]
    unfold fac chO
    rw [h, hw, mod_split, hd]
    have hlt : n / (fac m * R) % (m + 1) < m + 1 := Nat.mod_lt _ (by omega)
    have he : (l.eraseIdx (n / (fac m * R) % (m + 1))).length = m := by rw [List.length_eraseIdx, if_pos (by omega)]; omega
    unfold ordN
    rw [flat_at _ (fac m) (List.range l.length) (fun i hi => by
        have hi' : i < l.length := by simpa using hi
        rw [List.length_map, ordN_len _ _ (by rw [List.length_eraseIdx, if_pos hi']; omega)]) _ _ (n / (fac m * R) % (m + 1)) (by simp [h, hlt]) (Nat.mod_lt _ (fac_pos m))]
    rw [List.getElem?_map, ih _ he]
    rfl

/-! whole candidates -/
structure Exe where
  from' : List Int
  order : List (List Int)

def ords (E : List Evt) (j : Int) : List (List Int) := ordN (wrs E 0 j).length (wrs E 0 j)

def exs (E : List Evt) : List Exe :=
  (allF (rdo E E)).flatMap fun f => (ords E 0).flatMap fun a => (ords E 1).flatMap fun b => (ords E 2).map fun c => ⟨f, [a, b, c]⟩

/-- The candidate with a number, as the digits say. -/
def exN (E : List Evt) (n : Nat) : Exe :=
  ⟨chF n (rdo E E) (sizeN E), [chO n (wrs E 0 0).length (wrs E 0 0) (facL E 0), chO n (wrs E 0 1).length (wrs E 0 1) (facL E 1), chO n (wrs E 0 2).length (wrs E 0 2) (facL E 2)]⟩

theorem ords_len (E : List Evt) (j : Int) : (ords E j).length = fac (wrs E 0 j).length := ordN_len _ _ rfl

theorem flat_length {α β : Type} (f : α → List β) (s : Nat) (l : List α) (hf : ∀ x ∈ l, (f x).length = s) : (l.flatMap f).length = l.length * s := by
  induction l with
  | nil => simp
  | cons a l ih => rw [List.flatMap_cons, List.length_append, ih (fun x hx => hf x (List.mem_cons_of_mem _ hx)), hf a (List.mem_cons_self ..), List.length_cons, Nat.add_mul]; omega

theorem exs3_len (E : List Evt) (f : List Int) (a b : List Int) : ((ords E 2).map fun c => (⟨f, [a, b, c]⟩ : Exe)).length = facL E 2 := by rw [List.length_map, ords_len]; rfl
theorem exs2_len (E : List Evt) (f : List Int) (a : List Int) : ((ords E 1).flatMap fun b => (ords E 2).map fun c => (⟨f, [a, b, c]⟩ : Exe)).length = facL E 1 := by
  rw [flat_length _ (facL E 2) _ (fun b _ => exs3_len E f a b), ords_len]; rfl
theorem exs1_len (E : List Evt) (f : List Int) : ((ords E 0).flatMap fun a => (ords E 1).flatMap fun b => (ords E 2).map fun c => (⟨f, [a, b, c]⟩ : Exe)).length = facL E 0 := by
  rw [flat_length _ (facL E 1) _ (fun a _ => exs2_len E f a), ords_len]; rfl
theorem exs_len (E : List Evt) : (exs E).length = sizeN E := by
  unfold exs
  rw [flat_length _ (facL E 0) _ (fun f _ => exs1_len E f), allF_len, plen_rdo]; rfl

theorem rdo_pos (E R : List Evt) : ∀ o ∈ rdo E R, 1 ≤ o.length := by
  induction R with
  | nil => simp [rdo]
  | cons x R ih =>
    unfold rdo
    split
    · intro o ho
      rcases List.mem_cons.1 ho with rfl | h
      · simp
      · exact ih o h
    · exact ih

theorem exs_at (E : List Evt) (n : Nat) (hn : n < sizeN E) : (exs E)[n]? = some (exN E n) := by
  have p0 := facL_pos E 0; have p1 := facL_pos E 1; have p2 := facL_pos E 2
  have hF : (allF (rdo E E))[n / facL E 0]? = some (chF n (rdo E E) (sizeN E)) := by
    have := chF_at n (rdo E E) (rdo_pos E E) (facL E 0) p0
    rw [plen_rdo, ← sizeN_eq] at this
    rw [Nat.mod_eq_of_lt] at this
    · exact this
    · exact (Nat.div_lt_iff_lt_mul p0).2 (by rw [← sizeN_eq]; exact hn)
  have hA : (ords E 0)[n / facL E 1 % fac (wrs E 0 0).length]? = some (chO n (wrs E 0 0).length (wrs E 0 0) (facL E 0)) := chO_at n _ _ rfl (facL E 1) p1
  have hB : (ords E 1)[n / facL E 2 % fac (wrs E 0 1).length]? = some (chO n (wrs E 0 1).length (wrs E 0 1) (facL E 1)) := chO_at n _ _ rfl (facL E 2) p2
  have hC : (ords E 2)[n / 1 % fac (wrs E 0 2).length]? = some (chO n (wrs E 0 2).length (wrs E 0 2) (facL E 2)) := by
    have := chO_at n (wrs E 0 2).length (wrs E 0 2) rfl 1 (Nat.le_refl 1)
    rw [Nat.mul_one] at this
    exact this
  have s0 : facL E 0 = fac (wrs E 0 0).length * facL E 1 := rfl
  have s1 : facL E 1 = fac (wrs E 0 1).length * facL E 2 := rfl
  have s2 : facL E 2 = fac (wrs E 0 2).length := rfl
  have e0 : n = n / facL E 0 * facL E 0 + n % facL E 0 := by rw [Nat.mul_comm]; exact (Nat.div_add_mod n _).symm
  have e1 : n % facL E 0 = (n / facL E 1 % fac (wrs E 0 0).length) * facL E 1 + n % facL E 1 := by rw [s0]; exact mod_split _ _ _
  have e2 : n % facL E 1 = (n / facL E 2 % fac (wrs E 0 1).length) * facL E 2 + n % facL E 2 := by rw [s1]; exact mod_split _ _ _
  have e3 : n % facL E 2 = n / 1 % fac (wrs E 0 2).length := by rw [s2, Nat.div_one]
  generalize hy : exN E n = y
  unfold exs
  rw [e0, flat_at _ (facL E 0) _ (fun f _ => exs1_len E f) _ _ _ hF (Nat.mod_lt _ p0)]
  rw [e1, flat_at _ (facL E 1) _ (fun a _ => exs2_len E _ a) _ _ _ hA (Nat.mod_lt _ p1)]
  rw [e2, flat_at _ (facL E 2) _ (fun b _ => exs3_len E _ _ b) _ _ _ hB (Nat.mod_lt _ p2)]
  rw [List.getElem?_map, e3, hC, ← hy]
  rfl

/-- The document's own way to lay out the first part: one read more at the right. -/
theorem allF_step (acc : List (List Int)) (o : List Int) (os : List (List Int)) :
    (acc.flatMap fun a => (allF (o :: os)).map fun r => a ++ r) = ((acc.flatMap fun a => o.map fun x => a ++ [x]).flatMap fun b => (allF os).map fun r => b ++ r) := by
  rw [List.flatMap_assoc]
  congr 1
  funext a
  rw [show allF (o :: os) = o.flatMap (fun x => (allF os).map fun r => x :: r) from rfl, List.map_flatMap, List.flatMap_map]
  congr 1
  funext x
  rw [List.map_map]
  congr 1
  funext r
  simp

theorem allF_done (acc : List (List Int)) : (acc.flatMap fun a => (allF []).map fun r => a ++ r) = acc := by
  unfold allF
  induction acc with
  | nil => rfl
  | cons a acc ih => rw [List.flatMap_cons, ih]; simp

end Go.Proofs.Ytomijmikkbhgmab

namespace Go.Proofs.Ytomijmikkbhgmab

/-! writes of a location -/
theorem wrs_mem {E : List Evt} {k : Nat} {loc w : Int} (h : w ∈ wrs E k loc) : ∃ i x, E[i]? = some x ∧ w = ((k + i : Nat) : Int) ∧ x.kind = 1 ∧ x.loc = loc := by
  induction E generalizing k with
  | nil => simp [wrs] at h
  | cons y E ih =>
    have key : w ∈ wrs E (k + 1) loc → ∃ i x, (y :: E)[i]? = some x ∧ w = ((k + i : Nat) : Int) ∧ x.kind = 1 ∧ x.loc = loc := by
      intro hw
      obtain ⟨i, x, h1, h2, h3⟩ := ih hw
      exact ⟨i + 1, x, by simpa using h1, by rw [h2]; congr 1; omega, h3⟩
    unfold wrs at h
    split at h
    · rename_i hc
      rcases List.mem_cons.1 h with rfl | h
      · simp only [Bool.and_eq_true, beq_iff_eq] at hc
        exact ⟨0, y, rfl, rfl, hc.1, hc.2⟩
      · exact key h
    · exact key h

theorem wrs_sorted (E : List Evt) (k : Nat) (loc : Int) : (wrs E k loc).Pairwise (· < ·) := by
  induction E generalizing k with
  | nil => simp [wrs]
  | cons y E ih =>
    unfold wrs
    split
    · refine List.pairwise_cons.2 ⟨fun w hw => ?_, ih (k + 1)⟩
      obtain ⟨i, x, _, h2, _⟩ := wrs_mem hw
      omega
    · exact ih (k + 1)

/-- How often an event stands in the list of a location's writes. -/
theorem wrs_count {E : List Evt} {k i : Nat} {loc : Int} {x : Evt} (h : E[i]? = some x) : (wrs E k loc).count ((k + i : Nat) : Int) = if x.kind == 1 && x.loc == loc then 1 else 0 := by
  induction E generalizing k i with
  | nil => simp at h
  | cons y E ih =>
    cases i with
    | zero =>
      simp at h
      subst h
      have h0 : (wrs E (k + 1) loc).count ((k + 0 : Nat) : Int) = 0 := by
        refine List.count_eq_zero.2 fun hm => ?_
        obtain ⟨j, z, _, h2, _⟩ := wrs_mem hm
        omega
      unfold wrs
      split
      · rw [List.count_cons, h0]; simp
      · exact h0
    | succ i =>
      have h1 := ih (k := k + 1) (i := i) (by simpa using h)
      rw [show k + 1 + i = k + (i + 1) by omega] at h1
      unfold wrs
      split
      · rw [List.count_cons, h1, if_neg (show ¬ ((k : Int) == ((k + (i + 1) : Nat) : Int)) = true by simp; omega), Nat.add_zero]
      · exact h1

/-! the tally -/
def isW (x : Ins) : Bool := x.op == 0 || x.op == 1 || x.op == 3
def isR (x : Ins) : Bool := x.op == 2 || x.op == 3
def cwL (j : Int) (l : List Ins) : Nat := (l.filter fun x => isW x && x.loc == j).length
def crL (j : Int) (l : List Ins) : Nat := (l.filter fun x => isR x && x.loc == j).length
def cw (j : Int) : List (List Ins) → Nat
  | [] => 0
  | l :: T => cwL j l + cw j T
def cr (j : Int) : List (List Ins) → Nat
  | [] => 0
  | l :: T => crL j l + cr j T

def cE (k j : Int) (E : List Evt) : Nat := (E.filter fun x => x.kind == k && x.loc == j).length

theorem cE_append (k j : Int) (A B : List Evt) : cE k j (A ++ B) = cE k j A + cE k j B := by unfold cE; rw [List.filter_append, List.length_append]

theorem wrs_cE (E : List Evt) (k : Nat) (j : Int) : (wrs E k j).length = cE 1 j E := by
  induction E generalizing k with
  | nil => rfl
  | cons x E ih =>
    unfold wrs cE
    rw [List.filter_cons]
    split
    · rw [List.length_cons, List.length_cons, ih]; rfl
    · rw [ih]; rfl

theorem cE_kinds (i p : Nat) (x : Ins) (k j : Int) : cE k j (evsK i p x (kindsOf x.op)) = if x.loc == j then ((kindsOf x.op).filter fun q => q == k).length else 0 := by
  unfold cE evsK
  rw [List.filter_map, List.length_map]
  cases h : x.loc == j
  · simp [Function.comp_def, h]
  · simp [Function.comp_def, h]

theorem kinds_w (x : Ins) : ((kindsOf x.op).filter fun q => q == 1).length = if isW x then 1 else 0 := by
  unfold kindsOf isW
  repeat' split
  all_goals simp_all

theorem kinds_r (x : Ins) : ((kindsOf x.op).filter fun q => q == 0).length = if isR x then 1 else 0 := by
  unfold kindsOf isR
  repeat' split
  all_goals first
    | (simp_all; done)
    | (simp_all; omega)

theorem cE_evsI_w (i : Nat) (l : List Ins) (p : Nat) (j : Int) : cE 1 j (evsI i l p) = cwL j l := by
  induction l generalizing p with
  | nil => rfl
  | cons x l ih =>
    rw [evsI, cE_append, ih, cE_kinds, kinds_w]
    unfold cwL
    rw [List.filter_cons]
    cases isW x <;> cases x.loc == j <;> simp <;> omega

theorem cE_evsI_r (i : Nat) (l : List Ins) (p : Nat) (j : Int) : cE 0 j (evsI i l p) = crL j l := by
  induction l generalizing p with
  | nil => rfl
  | cons x l ih =>
    rw [evsI, cE_append, ih, cE_kinds, kinds_r]
    unfold crL
    rw [List.filter_cons]
    cases isR x <;> cases x.loc == j <;> simp <;> omega

theorem cE_evsT_w (T : List (List Ins)) (i : Nat) (j : Int) : cE 1 j (evsT T i) = cw j T := by
  induction T generalizing i with
  | nil => rfl
  | cons l T ih => rw [evsT, cE_append, cE_evsI_w, ih]; rfl

theorem cE_evsT_r (T : List (List Ins)) (i : Nat) (j : Int) : cE 0 j (evsT T i) = cr j T := by
  induction T generalizing i with
  | nil => rfl
  | cons l T ih => rw [evsT, cE_append, cE_evsI_r, ih]; rfl

/-! how many -/
def remL : List (Nat × Nat) → Nat
  | [] => 1
  | (w, r) :: l => (w + 1) ^ r * (fac w * remL l)

theorem remL_pos (l : List (Nat × Nat)) : 1 ≤ remL l := by
  induction l with
  | nil => exact Nat.le_refl 1
  | cons p l ih => exact Nat.mul_le_mul (Nat.pow_pos (by omega)) (Nat.mul_le_mul (fac_pos _) ih)

def tly (T : List (List Ins)) : List (Nat × Nat) := [(cw 0 T, cr 0 T), (cw 1 T, cr 1 T), (cw 2 T, cr 2 T)]

theorem prodR_pow (E R : List Evt) (h : ∀ x ∈ R, locB x.loc = true) : prodR E R = ((wrs E 0 0).length + 1) ^ cE 0 0 R * (((wrs E 0 1).length + 1) ^ cE 0 1 R * ((wrs E 0 2).length + 1) ^ cE 0 2 R) := by
  induction R with
  | nil => simp [prodR, cE]
  | cons x R ih =>
    have hx := h x (List.mem_cons_self ..)
    have ih := ih (fun y hy => h y (List.mem_cons_of_mem _ hy))
    unfold prodR
    unfold cE at ih ⊢
    rw [List.filter_cons, List.filter_cons, List.filter_cons]
    cases hk : x.kind == 0
    · simpa using ih
    · unfold locB at hx
      simp only [Bool.and_eq_true, decide_eq_true_eq] at hx
      have h3 : x.loc = 0 ∨ x.loc = 1 ∨ x.loc = 2 := by omega
      rw [ih]
      generalize hA : (wrs E 0 0).length = A at *
      generalize hB : (wrs E 0 1).length = B at *
      generalize hC : (wrs E 0 2).length = C at *
      rcases h3 with e | e | e
      · simp [e, hA, Nat.pow_succ]; rw [Nat.add_comm 1 A]; ac_rfl
      · simp [e, hB, Nat.pow_succ]; rw [Nat.add_comm 1 B]; ac_rfl
      · simp [e, hC, Nat.pow_succ]; rw [Nat.add_comm 1 C]; ac_rfl

theorem sizeN_remL (T : List (List Ins)) (h : ∀ x ∈ evsT T 0, locB x.loc = true) : sizeN (evsT T 0) = remL (tly T) := by
  unfold sizeN tly remL remL remL remL
  rw [prodR_pow _ _ h, wrs_cE, wrs_cE, wrs_cE, cE_evsT_w, cE_evsT_w, cE_evsT_w, cE_evsT_r, cE_evsT_r, cE_evsT_r, Nat.mul_one]
  ac_rfl

/-! what Check says of locations -/
theorem mayB_loc {x : Ins} (h : mayB x = true) : locB x.loc = true := by
  unfold mayB at h
  have h0 : (x.loc == 0) = true → locB x.loc = true := by intro e; have : x.loc = 0 := by simpa using e
                                                          rw [this]; rfl
  repeat' split at h
  all_goals first
    | (simp only [Bool.and_eq_true] at h; exact h.1.1.1)
    | (simp only [Bool.and_eq_true] at h; exact h0 h.1.1.1)
    | simp at h

theorem badAt_none {l : List Ins} {j : Nat} (h : badAt l j = none) : ∀ x ∈ l, mayB x = true := by
  induction l generalizing j with
  | nil => simp
  | cons y l ih =>
    cases hy : mayB y
    · rw [badAt_bad hy] at h; cases h
    · rw [badAt_ok hy] at h
      intro x hx
      rcases List.mem_cons.1 hx with rfl | hx
      · exact hy
      · exact ih h x hx

theorem insF_none {T : List (List Ins)} {i : Nat} (h : insF T i = none) : ∀ l ∈ T, ∀ x ∈ l, locB x.loc = true := by
  induction T generalizing i with
  | nil => simp
  | cons l T ih =>
    cases hb : badAt l 0 with
    | some j => rw [insF_bad hb] at h; cases h
    | none =>
      rw [insF_ok hb] at h
      intro m hm x hx
      rcases List.mem_cons.1 hm with rfl | hm
      · exact mayB_loc (badAt_none hb x hx)
      · exact ih h m hm x hx

theorem chk_locs {T : List (List Ins)} {c : List Atm} (h : ((chk T c).1 == 0) = true) : ∀ l ∈ T, ∀ x ∈ l, locB x.loc = true := by
  unfold chk at h
  cases hs : sizeB T c
  · rw [hs] at h; simp at h
  · rw [hs] at h
    cases hi : insF T 0 with
    | none => exact insF_none hi
    | some p => rw [hi] at h; simp at h

theorem evsI_locs {i : Nat} {l : List Ins} {p : Nat} (h : ∀ x ∈ l, locB x.loc = true) : ∀ x ∈ evsI i l p, locB x.loc = true := by
  induction l generalizing p with
  | nil => simp [evsI]
  | cons y l ih =>
    intro x hx
    rw [evsI] at hx
    rcases List.mem_append.1 hx with hx | hx
    · obtain ⟨k, _, rfl⟩ := List.mem_map.1 hx
      exact h y (List.mem_cons_self ..)
    · exact ih (fun z hz => h z (List.mem_cons_of_mem _ hz)) x hx

theorem evsT_locs {T : List (List Ins)} {i : Nat} (h : ∀ l ∈ T, ∀ x ∈ l, locB x.loc = true) : ∀ x ∈ evsT T i, locB x.loc = true := by
  induction T generalizing i with
  | nil => simp [evsT]
  | cons l T ih =>
    intro x hx
    rw [evsT] at hx
    rcases List.mem_append.1 hx with hx | hx
    · exact evsI_locs (h l (List.mem_cons_self ..)) x hx
    · exact ih (fun m hm => h m (List.mem_cons_of_mem _ hm)) x hx

end Go.Proofs.Ytomijmikkbhgmab

namespace Go.Proofs.Ytomijmikkbhgmab

/-- Does a list go ahead of another one, number by number? -/
def lx : List Int → List Int → Bool
  | a :: l, b :: m => if a == b then lx l m else decide (a < b)
  | _, _ => false

theorem lx_app {a b : List Int} (h : lx a b = true) (s t : List Int) : lx (a ++ s) (b ++ t) = true := by
  induction a generalizing b with
  | nil => simp [lx] at h
  | cons x a ih =>
    cases b with
    | nil => simp [lx] at h
    | cons y b =>
      rw [List.cons_append, List.cons_append]
      unfold lx at h ⊢
      split
      · rename_i e; rw [if_pos e] at h; exact ih h
      · rename_i e; rw [if_neg e] at h; exact h

theorem lx_same (a s t : List Int) : lx (a ++ s) (a ++ t) = lx s t := by
  induction a with
  | nil => rfl
  | cons x a ih => rw [List.cons_append, List.cons_append, lx, if_pos (by simp)]; exact ih

theorem lx_cons {a b : Int} (h : a < b) (s t : List Int) : lx (a :: s) (b :: t) = true := by
  unfold lx
  rw [if_neg (by simp; omega)]
  simpa using h

abbrev Asc (L : List (List Int)) : Prop := L.Pairwise fun a b => lx a b = true

theorem allF_asc (os : List (List Int)) (h : ∀ o ∈ os, o.Pairwise (· < ·)) : Asc (allF os) := by
  induction os with
  | nil => simp [Asc, allF]
  | cons o os ih =>
    have ih := ih (fun x hx => h x (List.mem_cons_of_mem _ hx))
    unfold Asc allF
    refine List.pairwise_flatMap.2 ⟨fun a _ => List.pairwise_map.2 (ih.imp fun {r s} hrs => ?_), (h o (List.mem_cons_self ..)).imp fun {a b} hab x hx y hy => ?_⟩
    · exact (lx_same [a] r s).trans hrs
    · obtain ⟨r, _, rfl⟩ := List.mem_map.1 hx
      obtain ⟨s, _, rfl⟩ := List.mem_map.1 hy
      exact lx_cons hab r s

theorem ordN_asc (m : Nat) (l : List Int) (h : l.Pairwise (· < ·)) : Asc (ordN m l) := by
  induction m generalizing l with
  | zero => simp [Asc, ordN]
  | succ m ih =>
    unfold Asc ordN
    refine List.pairwise_flatMap.2 ⟨fun i _ => List.pairwise_map.2 ((ih _ (h.sublist (List.eraseIdx_sublist ..))).imp fun {r s} hrs => ?_), ?_⟩
    · exact (lx_same [l.getD i 0] r s).trans hrs
    · refine List.Pairwise.imp_of_mem ?_ List.pairwise_lt_range
      intro i j hi hj hij x hx y hy
      obtain ⟨r, _, rfl⟩ := List.mem_map.1 hx
      obtain ⟨s, _, rfl⟩ := List.mem_map.1 hy
      have hi' : i < l.length := by simpa using hi
      have hj' : j < l.length := by simpa using hj
      refine lx_cons ?_ r s
      rw [List.getD, List.getD, List.getElem?_eq_getElem hi', List.getElem?_eq_getElem hj']
      exact List.pairwise_iff_getElem.1 h i j hi' hj' hij

/-- The entries of an execution behind each other. -/
def plc (x : Exe) : List Int := x.from' ++ x.order.flatten

theorem rdo_asc (E R : List Evt) : ∀ o ∈ rdo E R, o.Pairwise (· < ·) := by
  induction R with
  | nil => simp [rdo]
  | cons x R ih =>
    unfold rdo
    split
    · intro o ho
      rcases List.mem_cons.1 ho with rfl | ho
      · refine List.pairwise_cons.2 ⟨fun w hw => ?_, wrs_sorted E 0 x.loc⟩
        obtain ⟨i, _, _, h2, _⟩ := wrs_mem hw
        omega
      · exact ih o ho
    · exact ih

theorem exs_asc (E : List Evt) : (exs E).Pairwise fun x y => lx (plc x) (plc y) = true := by
  have hF := allF_asc _ (rdo_asc E E)
  have hO := fun j => ordN_asc (wrs E 0 j).length _ (wrs_sorted E 0 j)
  unfold exs
  refine List.pairwise_flatMap.2 ⟨fun f _ => List.pairwise_flatMap.2 ⟨fun a _ => List.pairwise_flatMap.2 ⟨fun b _ => List.pairwise_map.2 ((hO 2).imp fun {c d} hcd => ?_), ?_⟩, ?_⟩, ?_⟩
  · simp only [plc, List.flatten_cons, List.flatten_nil, List.append_nil]
    rw [lx_same, lx_same, lx_same]; exact hcd
  · refine (hO 1).imp fun {b b'} hbb x hx y hy => ?_
    obtain ⟨c, _, rfl⟩ := List.mem_map.1 hx
    obtain ⟨d, _, rfl⟩ := List.mem_map.1 hy
    simp only [plc, List.flatten_cons, List.flatten_nil, List.append_nil]
    rw [lx_same, lx_same]; exact lx_app hbb _ _
  · refine (hO 0).imp fun {a a'} haa x hx y hy => ?_
    obtain ⟨b, _, hx⟩ := List.mem_flatMap.1 hx
    obtain ⟨c, _, rfl⟩ := List.mem_map.1 hx
    obtain ⟨b', _, hy⟩ := List.mem_flatMap.1 hy
    obtain ⟨d, _, rfl⟩ := List.mem_map.1 hy
    simp only [plc, List.flatten_cons, List.flatten_nil, List.append_nil]
    rw [lx_same]; exact lx_app haa _ _
  · refine hF.imp fun {f f'} hff x hx y hy => ?_
    obtain ⟨a, _, hx⟩ := List.mem_flatMap.1 hx
    obtain ⟨b, _, hx⟩ := List.mem_flatMap.1 hx
    obtain ⟨c, _, rfl⟩ := List.mem_map.1 hx
    obtain ⟨a', _, hy⟩ := List.mem_flatMap.1 hy
    obtain ⟨b', _, hy⟩ := List.mem_flatMap.1 hy
    obtain ⟨d, _, rfl⟩ := List.mem_map.1 hy
    exact lx_app hff _ _

/-- Each candidate goes ahead of the next. -/
theorem exN_next (E : List Evt) (n : Nat) (hn : n + 1 < sizeN E) : lx (plc (exN E n)) (plc (exN E (n + 1))) = true := by
  have h1 := exs_at E n (by omega)
  have h2 := exs_at E (n + 1) hn
  obtain ⟨k1, e1⟩ := List.getElem?_eq_some_iff.1 h1
  obtain ⟨k2, e2⟩ := List.getElem?_eq_some_iff.1 h2
  rw [← e1, ← e2]
  exact List.pairwise_iff_getElem.1 (exs_asc E) n (n + 1) k1 k2 (by omega)

/-! each is an execution -/
/-- One number for each read, out of what it may read from. -/
def picks : List Int → List (List Int) → Prop
  | [], [] => True
  | a :: l, o :: os => a ∈ o ∧ picks l os
  | _, _ => False

theorem chF_picks (n : Nat) (os : List (List Int)) (h : ∀ o ∈ os, 1 ≤ o.length) (wt : Nat) : picks (chF n os wt) os := by
  induction os generalizing wt with
  | nil => exact True.intro
  | cons o os ih =>
    have h1 := h o (List.mem_cons_self ..)
    refine ⟨?_, ih (fun x hx => h x (List.mem_cons_of_mem _ hx)) _⟩
    have hlt : n / (wt / o.length) % o.length < o.length := Nat.mod_lt _ h1
    rw [List.getD, List.getElem?_eq_getElem hlt]
    exact List.getElem_mem hlt

theorem chO_perm (n m : Nat) (l : List Int) (h : l.length = m) (wt : Nat) : (chO n m l wt).Perm l := by
  induction m generalizing l wt with
  | zero => have : l = [] := List.eq_nil_of_length_eq_zero h
            subst this; exact List.Perm.refl _
  | succ m ih =>
    unfold chO
    have hlt : n / (wt / l.length) % l.length < l.length := Nat.mod_lt _ (by omega)
    generalize hd : n / (wt / l.length) % l.length = d at hlt
    rw [List.getD, List.getElem?_eq_getElem hlt]
    refine (List.Perm.cons _ (ih (l.eraseIdx d) (by rw [List.length_eraseIdx, if_pos hlt]; omega) _)).trans ?_
    have e : l = l.take d ++ l[d] :: l.drop (d + 1) := by rw [← List.drop_eq_getElem_cons hlt, List.take_append_drop]
    rw [List.eraseIdx_eq_take_drop_succ]
    have p := List.perm_middle (a := l[d]) (l₁ := l.take d) (l₂ := l.drop (d + 1))
    rw [← e] at p
    exact p.symm

/-- An execution of these events. -/
structure Drawn (E : List Evt) (x : Exe) : Prop where
  f : picks x.from' (rdo E E)
  o : ∃ a b c, x.order = [a, b, c] ∧ a.Perm (wrs E 0 0) ∧ b.Perm (wrs E 0 1) ∧ c.Perm (wrs E 0 2)

theorem exN_drawn (E : List Evt) (n : Nat) : Drawn E (exN E n) :=
  ⟨chF_picks _ _ (rdo_pos E E) _, _, _, _, rfl, chO_perm _ _ _ rfl _, chO_perm _ _ _ rfl _, chO_perm _ _ _ rfl _⟩

theorem Drawn.row {E : List Evt} {x : Exe} (h : Drawn E x) {j : Nat} {l : List Int} (hl : x.order[j]? = some l) : l.Perm (wrs E 0 (j : Int)) := by
  obtain ⟨a, b, c, ho, ha, hb, hc⟩ := h.o
  rw [ho] at hl
  match j, hl with
  | 0, hl => simp at hl; subst hl; exact ha
  | 1, hl => simp at hl; subst hl; exact hb
  | 2, hl => simp at hl; subst hl; exact hc
  | j + 3, hl => simp at hl

/-- At the end each write of a location has stood once. -/
theorem Drawn.once {E : List Evt} {x : Exe} (h : Drawn E x) (hE : ∀ y ∈ E, locB y.loc = true) {i : Nat} {y : Evt} (hy : E[i]? = some y) (hk : y.kind = 1) : x.order.flatten.count (i : Int) = 1 := by
  obtain ⟨a, b, c, ho, ha, hb, hc⟩ := h.o
  have hl := hE y (List.mem_of_getElem? hy)
  unfold locB at hl
  simp only [Bool.and_eq_true, decide_eq_true_eq] at hl
  have k0 := wrs_count (k := 0) (loc := 0) hy
  have k1 := wrs_count (k := 0) (loc := 1) hy
  have k2 := wrs_count (k := 0) (loc := 2) hy
  rw [Nat.zero_add] at k0 k1 k2
  rw [ho]
  simp only [List.flatten_cons, List.flatten_nil, List.append_nil, List.count_append]
  rw [ha.count_eq, hb.count_eq, hc.count_eq, k0, k1, k2, hk]
  have h3 : y.loc = 0 ∨ y.loc = 1 ∨ y.loc = 2 := by omega
  rcases h3 with e | e | e <;> simp [e]

end Go.Proofs.Ytomijmikkbhgmab
