import Derived.Test.YtomijmikkbhgmaaGreatT23
import Derived.Laws.OwnMore
import Derived.Test.YtomijmikkbhgmaaGreatT19
import Derived.Test.YtomijmikkbhgmaaGreatT2
import Derived.Deep.QuietTactic
import Derived.BigQuiet
import Derived.Deep.LoopGhost
import Derived.Test.YtomijmikkbhgmaaGreatT4
namespace Go.Proofs.YtomijmikkbhgmaaGreat
open Go.RowKit

/-- Something at one place changed for something else. -/
def putF {α : Type} (f : Nat → α) (i : Nat) (v : α) : Nat → α := fun j => if j = i then v else f j
theorem putF_self {α : Type} (f : Nat → α) (i : Nat) (v : α) : putF f i v i = v := by unfold putF; rw [if_pos rfl]
theorem putF_ne {α : Type} (f : Nat → α) {i j : Nat} (v : α) (h : j ≠ i) : putF f i v j = f j := by unfold putF; rw [if_neg h]

/-- Of what type the four rows of World are: numbers, lists, events, outcomes. -/
def tyW (c : Nat) : TypeId := if c = 0 then 26 else if c = 1 then 27 else if c = 2 then 73 else 55

/-- Of what type the entries of their lists are, and of how many cells. -/
def elW (c : Nat) : TypeId := if c = 0 then 3 else if c = 1 then 26 else if c = 2 then 75 else 77
def szW (c : Nat) : Nat := if c = 2 then 4 else if c = 3 then 2 else 1

/-- What a list of the c-th kind, written full with a mark, holds in its first k entries. -/
def MarkC (c : Nat) (MB : Nat → Prop) (w : World) (xs : List Value) (k : Nat) (m : Int) : Prop :=
  if c = 0 then ∀ j, j < k → xs[j]? = some (.int .i64 m)
  else if c = 1 then ∀ j, j < k → ∃ h, xs[j]? = some (.slice (some ⟨h, 0, none⟩) 1 1) ∧ MB h ∧ w.heap[h]? = some (.cells #[.int .i64 m] 3 (0, 0))
  else if c = 2 then ∀ j, j < k → xs[j * 4]? = some (.int .i64 0) ∧ xs[j * 4 + 1]? = some (.int .i64 m) ∧ xs[j * 4 + 2]? = some (.int .i64 0) ∧ xs[j * 4 + 3]? = some (.int .i64 0)
  else ∀ j, j < k → xs[j * 2]? = some (.slice none 0 0) ∧ xs[j * 2 + 1]? = some (.int .i64 m)

/-- A list, written full with a mark; MB: the blocks that are so written. -/
def Mark (c : Nat) (MB : Nat → Prop) (w : World) (f : Value) (m : Int) : Prop :=
  ∃ n xs, w.ownsRow 0 (elW c) (szW c) f n xs ∧ (∃ ao, f = .slice ao n n) ∧ (∀ g, f.ownBlock = some g → MB g) ∧ MarkC c MB w xs n m

theorem MarkC.other {c : Nat} {MB MB' : Nat → Prop} {w w' : World} {xs : List Value} {n : Nat} {m : Int} (h : MarkC c MB w xs n m) (hm : ∀ b, MB b → MB' b) (hs : ∀ b, MB b → w'.heap[b]? = w.heap[b]?) : MarkC c MB' w' xs n m := by
  unfold MarkC at *
  split at h
  · rename_i hc; rw [if_pos hc]; exact h
  · rename_i hc
    rw [if_neg hc]
    split at h
    · rename_i hc1
      rw [if_pos hc1]
      intro j hj
      obtain ⟨k, q1, q2, q3⟩ := h j hj
      exact ⟨k, q1, hm k q2, (hs k q2).trans q3⟩
    · rename_i hc1
      rw [if_neg hc1]
      exact h
theorem Mark.other {c : Nat} {MB MB' : Nat → Prop} {w w' : World} {f : Value} {m : Int} (h : Mark c MB w f m) (hm : ∀ b, MB b → MB' b) (hs : ∀ b, MB b → w'.heap[b]? = w.heap[b]?) : Mark c MB' w' f m := by
  obtain ⟨n, xs, h1, h2, h3, h4⟩ := h
  exact ⟨n, xs, own_other h1 fun b hb => hs b (h3 b hb), h2, fun g hg => hm g (h3 g hg), h4.other hm hs⟩

/-- World: its struct lies in block R; V: its four rows; F: what they hold, N at most; P: blocks that are none of its. -/
structure WM (b0 : Nat) (w : World) (R : Nat) (vts vxs : Value) (N : Nat) (V : Nat → Value) (F : Nat → List Value) (MB P : Nat → Prop) : Prop where
  lo : b0 ≤ R
  blk : w.heap[R]? = some (.cells #[vts, vxs, V 0, V 1, V 2, V 3] 40 (0, 0))
  own : ∀ c, c < 4 → w.ownsRow b0 (tyW c) 1 (V c) (F c).length (F c)
  len : ∀ c, c < 4 → (F c).length ≤ N
  mark : ∀ (c k : Nat) (f : Value), c < 4 → (F c)[k]? = some f → Mark c MB w f (-1000 - (k : Int))
  mlt : ∀ b, MB b → b < w.heap.size
  sep : ∀ b, MB b → b ≠ R ∧ ∀ c, c < 4 → (V c).ownBlock ≠ some b
  pend : ∀ b, P b → b0 ≤ b ∧ b < w.heap.size ∧ ¬ MB b ∧ b ≠ R ∧ ∀ c, c < 4 → (V c).ownBlock ≠ some b

theorem own_ty {w : World} {base : Nat} {e : TypeId} {s : Nat} {v : Value} {n : Nat} {xs : List Value} (h : w.ownsRow base e s v n xs) {b : Nat} (hb : v.ownBlock = some b) : ∃ cur, w.heap[b]? = some (.cells cur e (0, 0)) := by
  rcases h.2 with ⟨rfl, _⟩ | ⟨g, cap, cur, rfl, _, hh, _⟩
  · cases hb
  · cases hb; exact ⟨cur, hh⟩
theorem own_ne {w : World} {base base' : Nat} {e e' : TypeId} {s s' : Nat} {v v' : Value} {n n' : Nat} {xs xs' : List Value} (h : w.ownsRow base e s v n xs) (h' : w.ownsRow base' e' s' v' n' xs') (he : e ≠ e') {b : Nat} (hb : v.ownBlock = some b) : v'.ownBlock ≠ some b := fun hb' => by
  obtain ⟨c1, q1⟩ := own_ty h hb
  obtain ⟨c2, q2⟩ := own_ty h' hb'
  rw [q1] at q2
  cases q2
  exact he rfl
theorem heap_ltA {w : World} {b : Nat} {o : Obj} (h : w.heap[b]? = some o) : b < w.heap.size := (Array.getElem?_eq_some_iff.1 h).1

theorem tyW_ne0 : ∀ c, c < 4 → ∀ c', c' < 4 → c ≠ c' → tyW c ≠ tyW c' := by decide
theorem tyW_ne (c c' : Nat) (h : c < 4) (h' : c' < 4) (hn : c ≠ c') : tyW c ≠ tyW c' := tyW_ne0 c h c' h' hn
theorem tyW_world : ∀ c, c < 4 → tyW c ≠ 40 := by decide

theorem WM.vr {b0 : Nat} {w : World} {R : Nat} {vts vxs : Value} {N : Nat} {V : Nat → Value} {F : Nat → List Value} {MB P : Nat → Prop} (h : WM b0 w R vts vxs N V F MB P) {c : Nat} (hc : c < 4) : (V c).ownBlock ≠ some R := fun e => by
  obtain ⟨cur, q⟩ := own_ty (h.own c hc) e
  rw [h.blk] at q
  injection q with q
  injection q with _ q2
  exact tyW_world c hc q2.symm

theorem WM.le {b0 : Nat} {w : World} {R : Nat} {vts vxs : Value} {N N' : Nat} {V : Nat → Value} {F : Nat → List Value} {MB P P' : Nat → Prop} (h : WM b0 w R vts vxs N V F MB P) (hN : N ≤ N') (hP : ∀ b, P' b → P b) : WM b0 w R vts vxs N' V F MB P' :=
  ⟨h.lo, h.blk, h.own, fun c hc => Nat.le_trans (h.len c hc) hN, h.mark, h.mlt, h.sep, fun b hb => h.pend b (hP b hb)⟩

/-- Nothing was written but blocks that are none of World's; what has been made is none of World's. -/
theorem WM.grow {b0 : Nat} {w w' : World} {R : Nat} {vts vxs : Value} {N : Nat} {V : Nat → Value} {F : Nat → List Value} {MB P : Nat → Prop} (h : WM b0 w R vts vxs N V F MB P) (hsz : w.heap.size ≤ w'.heap.size) (hs : ∀ b, b < w.heap.size → ¬ P b → w'.heap[b]? = w.heap[b]?) : WM b0 w' R vts vxs N V F MB (fun b => P b ∨ (w.heap.size ≤ b ∧ b < w'.heap.size)) := by
  have hR : w'.heap[R]? = w.heap[R]? := hs R (heap_ltA h.blk) fun hp => (h.pend R hp).2.2.2.1 rfl
  have hM : ∀ b, MB b → w'.heap[b]? = w.heap[b]? := fun b hb => hs b (h.mlt b hb) fun hp => (h.pend b hp).2.2.1 hb
  have hV : ∀ c b, c < 4 → (V c).ownBlock = some b → w'.heap[b]? = w.heap[b]? := fun c b hc hb => hs b ((h.own c hc).lt b hb).2 fun hp => (h.pend b hp).2.2.2.2 c hc hb
  refine ⟨h.lo, hR.trans h.blk, fun c hc => own_other (h.own c hc) fun b hb => hV c b hc hb, h.len, fun c k f hc hf => (h.mark c k f hc hf).other (fun _ q => q) hM, fun b hm => Nat.lt_of_lt_of_le (h.mlt b hm) hsz, h.sep, fun b hp => ?_⟩
  rcases hp with hp | ⟨h1, h2⟩
  · exact ⟨(h.pend b hp).1, Nat.lt_of_lt_of_le (h.pend b hp).2.1 hsz, (h.pend b hp).2.2⟩
  · have hRl := heap_ltA h.blk
    refine ⟨by have := h.lo; omega, h2, fun hm => ?_, fun e => ?_, fun c hc e => ?_⟩
    · have := h.mlt b hm; omega
    · omega
    · have := ((h.own c hc).lt b e).2; omega
theorem WM.write {b0 : Nat} {w w' : World} {R : Nat} {vts vxs : Value} {N : Nat} {V : Nat → Value} {F : Nat → List Value} {MB P : Nat → Prop} (h : WM b0 w R vts vxs N V F MB P) (hsz : w.heap.size ≤ w'.heap.size) (hs : ∀ b, b < w.heap.size → ¬ P b → w'.heap[b]? = w.heap[b]?) : WM b0 w' R vts vxs N V F MB P := (h.grow hsz hs).le (Nat.le_refl _) fun _ q => .inl q
theorem WM.more {b0 : Nat} {w w' : World} {R : Nat} {vts vxs : Value} {N : Nat} {V : Nat → Value} {F : Nat → List Value} {MB P : Nat → Prop} (h : WM b0 w R vts vxs N V F MB P) (hb : Below w.heap.size w w') : WM b0 w' R vts vxs N V F MB (fun b => P b ∨ (w.heap.size ≤ b ∧ b < w'.heap.size)) := h.grow hb.size fun b hb' _ => hb.block b hb'
theorem WM.keep {b0 : Nat} {w w' : World} {R : Nat} {vts vxs : Value} {N : Nat} {V : Nat → Value} {F : Nat → List Value} {MB P : Nat → Prop} (h : WM b0 w R vts vxs N V F MB P) (hb : Below w.heap.size w w') : WM b0 w' R vts vxs N V F MB P := h.write hb.size fun b hb' _ => hb.block b hb'

/-- What World's functions do: the blocks of P stay. -/
structure Frm (b0 : Nat) (P : Nat → Prop) (w w' : World) : Prop where
  below : Below b0 w w'
  same : ∀ b, P b → w'.heap[b]? = w.heap[b]?
theorem Frm.refl (b0 : Nat) (P : Nat → Prop) (w : World) : Frm b0 P w w := ⟨Below.refl _ _, fun _ _ => rfl⟩
theorem Frm.trans {b0 : Nat} {P P' : Nat → Prop} {w w1 w2 : World} (h : Frm b0 P w w1) (k : Frm b0 P' w1 w2) (hP : ∀ b, P b → P' b) : Frm b0 P w w2 := ⟨h.below.trans k.below, fun b hb => (k.same b (hP b hb)).trans (h.same b hb)⟩
theorem Frm.less {b0 : Nat} {P P' : Nat → Prop} {w w1 : World} (h : Frm b0 P w w1) (hP : ∀ b, P' b → P b) : Frm b0 P' w w1 := ⟨h.below, fun b hb => h.same b (hP b hb)⟩

/-- One list more in a row. -/
theorem WM.app {b0 : Nat} {w w2 : World} {R : Nat} {vts vxs : Value} {N : Nat} {V : Nat → Value} {F : Nat → List Value} {MB P Q : Nat → Prop} (h : WM b0 w R vts vxs N V F MB P) (hQ : ∀ b, Q b → P b) {c : Nat} (hc : c < 4) {f v' : Value} {o : Obj} (hf : Mark c (fun b => MB b ∨ Q b) w f (-1000 - ((F c).length : Int))) (hown : w2.ownsRow b0 (tyW c) 1 v' ((F c).length + 1) (F c ++ [f])) (hg : (w.alloc o).grownBy w2 (V c).ownBlock) (hap : ∀ g, v'.ownBlock = some g → (V c).ownBlock = some g ∨ w.heap.size + 1 ≤ g) :
    WM b0 (w2.setCell ⟨R, 2 + c, none⟩ v') R vts vxs (N + 1) (putF V c v') (putF F c (F c ++ [f])) (fun b => MB b ∨ Q b) (fun b => P b ∧ ¬ Q b) ∧ Frm b0 P w (w2.setCell ⟨R, 2 + c, none⟩ v') ∧ w2.heap[R]? = some (.cells #[vts, vxs, V 0, V 1, V 2, V 3] 40 (0, 0)) := by
  have key : ∀ b : Nat, b < w.heap.size → (V c).ownBlock ≠ some b → w2.heap[b]? = w.heap[b]? := by
    intro b hb hne
    rw [hg.block b (by simp; omega) (fun e => hne e.symm), Below.heap_alloc _ _ _ hb]
  have hRl := heap_ltA h.blk
  have hR2 : w2.heap[R]? = some (.cells #[vts, vxs, V 0, V 1, V 2, V 3] 40 (0, 0)) := (key R hRl (h.vr hc)).trans h.blk
  have hoth : ∀ b : Nat, b ≠ R → (w2.setCell ⟨R, 2 + c, none⟩ v').heap[b]? = w2.heap[b]? := fun b hb => Below.heap_setCell _ _ _ _ hb
  have hsz : w.heap.size + 1 ≤ w2.heap.size := by have := hg.size; simpa using this
  have hv'R : v'.ownBlock ≠ some R := fun e => by
    rcases hap R e with q | q
    · exact h.vr hc q
    · omega
  have hmlt : ∀ b, MB b ∨ Q b → b < w.heap.size := fun b hb => by
    rcases hb with q | q
    · exact h.mlt b q
    · exact (h.pend b (hQ b q)).2.1
  have hsep : ∀ b, MB b ∨ Q b → b ≠ R ∧ ∀ c, c < 4 → (V c).ownBlock ≠ some b := fun b hb => by
    rcases hb with q | q
    · exact h.sep b q
    · exact (h.pend b (hQ b q)).2.2.2
  have hput : ∀ b, b < w.heap.size → (∀ c, c < 4 → (V c).ownBlock ≠ some b) → ∀ c', c' < 4 → (putF V c v' c').ownBlock ≠ some b := fun b hb hV c' hc' => by
    by_cases hcc : c' = c
    · subst hcc
      rw [putF_self]
      intro e
      rcases hap b e with q | q
      · exact hV c' hc' q
      · omega
    · rw [putF_ne _ _ hcc]
      exact hV c' hc'
  have hmk : ∀ b, MB b ∨ Q b → (w2.setCell ⟨R, 2 + c, none⟩ v').heap[b]? = w.heap[b]? := fun b hb => by rw [hoth b (hsep b hb).1, key b (hmlt b hb) ((hsep b hb).2 c hc)]
  refine ⟨⟨h.lo, ?_, fun c' hc' => ?_, fun c' hc' => ?_, fun c' k x hc' hx => ?_, fun b hb => ?_, fun b hb => ⟨(hsep b hb).1, hput b (hmlt b hb) (hsep b hb).2⟩, fun b hb => ?_⟩, ⟨⟨hg.os, hg.tape, hg.output, by simp [World.setCell]; omega, fun b hb => ?_⟩, fun b hb => ?_⟩, hR2⟩
  · rw [heap_setCell_same _ _ _ _ _ _ hR2]
    have h4 : c = 0 ∨ c = 1 ∨ c = 2 ∨ c = 3 := by omega
    rcases h4 with rfl | rfl | rfl | rfl <;> rfl
  · by_cases hcc : c' = c
    · subst hcc
      rw [putF_self, putF_self, List.length_append]
      exact own_other hown fun b hb => hoth b fun e => hv'R (by rw [← e]; exact hb)
    · rw [putF_ne _ _ hcc, putF_ne _ _ hcc]
      refine own_other (h.own c' hc') fun b hb => ?_
      rw [hoth b (fun e => h.vr hc' (by rw [← e]; exact hb)), key b ((h.own c' hc').lt b hb).2 (own_ne (h.own c' hc') (h.own c hc) (tyW_ne c' c hc' hc hcc) hb)]
  · by_cases hcc : c' = c
    · subst hcc
      rw [putF_self, List.length_append]
      have := h.len c' hc'
      simpa using this
    · rw [putF_ne _ _ hcc]
      have := h.len c' hc'
      omega
  · by_cases hcc : c' = c
    · subst hcc
      rw [putF_self] at hx
      by_cases hk : k < (F c').length
      · rw [List.getElem?_append_left hk] at hx
        exact ((h.mark c' k x hc' hx).other (fun b q => .inl q) (fun b q => hmk b (.inl q)))
      · have hkl : k = (F c').length := by
          have := (List.getElem?_eq_some_iff.1 hx).1
          simp at this; omega
        subst hkl
        rw [List.getElem?_append_right (Nat.le_refl _), Nat.sub_self] at hx
        simp at hx
        subst hx
        exact hf.other (fun _ q => q) hmk
    · rw [putF_ne _ _ hcc] at hx
      exact ((h.mark c' k x hc' hx).other (fun b q => .inl q) (fun b q => hmk b (.inl q)))
  · have := hmlt b hb
    simp [World.setCell]
    omega
  · obtain ⟨p0, p1, p2, p3, p4⟩ := h.pend b hb.1
    refine ⟨p0, by simp [World.setCell]; omega, fun q => ?_, p3, hput b p1 p4⟩
    rcases q with q | q
    · exact p2 q
    · exact hb.2 q
  · have hlo := h.lo
    rw [hoth b (by omega), key b (by omega) fun e => by have := ((h.own c hc).lt b e).1; omega]
  · obtain ⟨_, p1, _, p3, p4⟩ := h.pend b hb
    rw [hoth b p3, key b p1 (p4 c hc)]

end Go.Proofs.YtomijmikkbhgmaaGreat

namespace Go.Proofs.YtomijmikkbhgmaaGreat
open Go.RowKit

/-- The choices: the number, and how many rows of choices are open. -/
structure Chs (w : World) (B n wt : Nat) : Prop where
  c0 : w.cell? ⟨B, 0, none⟩ = some (.int .i64 n)
  c1 : w.cell? ⟨B, 1, none⟩ = some (.int .i64 wt)
  z0 : w.frozen? ⟨B, 0, none⟩ = false
  z1 : w.frozen? ⟨B, 1, none⟩ = false

theorem Chs.lt {w : World} {B n wt : Nat} (h : Chs w B n wt) : B < w.heap.size := World.block_lt_of_cell? w _ h.c0
theorem Chs.keep {w w' : World} {B n wt : Nat} (h : Chs w B n wt) (hb : w'.heap[B]? = w.heap[B]?) : Chs w' B n wt :=
  ⟨(World.cell?_of_block (w := w) hb).trans h.c0, (World.cell?_of_block (w := w) hb).trans h.c1, (World.frozen?_of_block (w := w) hb).trans h.z0, (World.frozen?_of_block (w := w) hb).trans h.z1⟩
theorem Chs.below {w w' : World} {B n wt : Nat} (h : Chs w B n wt) (hb : Below w.heap.size w w') : Chs w' B n wt := h.keep (hb.block B h.lt)

set_option maxHeartbeats 1000000 in
theorem next_any (B n wt m : Nat) (w : World) (h : Chs w B n wt) (hm : 1 ≤ m) (hmw : m ≤ wt) (hwt : wt ≤ 2001) (hn : n ≤ 2001) :
    Calls Tryz.prog 167 #[.pointer (some ⟨B, 0, none⟩), .int .i64 m] w fun e w' => e = .returned (.int .i64 (n / (wt / m) % m : Nat)) ∧ Chs w' B n (wt / m) ∧ Only B w w' := by
  have hl := h.lt
  obtain ⟨c0, c1, z0, z1⟩ := h
  have hq1 : 1 ≤ wt / m := (Nat.le_div_iff_mul_le hm).2 (by omega)
  have hq2 : wt / m ≤ 2001 := Nat.le_trans (Nat.div_le_self _ _) hwt
  have hd2 : n / (wt / m) ≤ 2001 := Nat.le_trans (Nat.div_le_self _ _) hn
  have eq : (wt : Int) / (m : Int) = ((wt / m : Nat) : Int) := by simp
  generalize wt / m = q at eq hq1 hq2 hd2 ⊢
  have ed : (n : Int) / (q : Int) = ((n / q : Nat) : Int) := by simp
  generalize n / q = d at ed hd2 ⊢
  have er : (d : Int) % (m : Int) = ((d % m : Nat) : Int) := by simp
  generalize d % m = r at er ⊢
  go_enter Tryz.func167, Tryz.ntmps167
  go_wp2_with fail
  go_quiet (fail)
  go_wp2_with fail
  go_ret
  refine ⟨ret_int er, ?_, ?_⟩
  · have hs : Chs (w.setCell ⟨B, 1, none⟩ (.int .i64 q)) B n q := ⟨by simp [go_sem, c0], by simp [go_sem, c1], by simp [go_sem, z0], by simp [go_sem, z1]⟩
    exact ⟨by simpa [go_sem] using hs.c0, by simpa [go_sem] using hs.c1, by simpa [go_sem] using hs.z0, by simpa [go_sem] using hs.z1⟩
  · refine ⟨rfl, rfl, rfl, by simp [World.setCell], fun k hk hn => ?_⟩
    exact Below.heap_setCell w ⟨B, 1, none⟩ _ k hn

/-- What 'without' has gathered behind k rounds. -/
def wo (l : List Int) (at' k : Nat) : List Int := (l.take k).eraseIdx at'

theorem wo_skip {l : List Int} {at' k : Nat} {x : Int} (hx : l[k]? = some x) (h : k = at') : wo l at' (k + 1) = wo l at' k := by
  unfold wo
  rw [take_snoc hx]
  subst h
  have hk : k ≤ l.length := by have := (List.getElem?_eq_some_iff.1 hx).1; omega
  have hl : (l.take k).length = k := by simp; omega
  rw [List.eraseIdx_append_of_length_le (by omega), hl, List.eraseIdx_of_length_le (l := l.take k) (by omega), Nat.sub_self]
  simp

theorem wo_take {l : List Int} {at' k : Nat} {x : Int} (hx : l[k]? = some x) (h : k ≠ at') : wo l at' (k + 1) = wo l at' k ++ [x] := by
  unfold wo
  rw [take_snoc hx]
  have hk : k < l.length := (List.getElem?_eq_some_iff.1 hx).1
  have hl : (l.take k).length = k := by simp; omega
  by_cases hlt : at' < k
  · rw [List.eraseIdx_append_of_lt_length (by omega)]
  · rw [List.eraseIdx_append_of_length_le (by omega), hl, List.eraseIdx_of_length_le (l := l.take k) (by omega), List.eraseIdx_of_length_le (by simp; omega)]

theorem wo_done (l : List Int) (at' : Nat) : wo l at' l.length = l.eraseIdx at' := by unfold wo; rw [List.take_length]

set_option maxHeartbeats 1000000 in
theorem without_any (l : List Int) (hl : l.length ≤ 96) (at' : Nat) (v : Value) (w : World) (h : IntAt w v l) :
    Calls Tryz.prog 168 #[v, .int .i64 at'] w fun e w' => ∃ u, e = .returned u ∧ IntNew w.heap.size w' u (l.eraseIdx at') ∧ Below w.heap.size w w' := by
  obtain ⟨ao, b, off, cap, hv, ha, _, hc⟩ := h
  subst hv
  obtain ⟨i0, hi, hz0, hz1, hz2⟩ := info_parts Tryz.info3
  have HI : Hid (Tryz.prog.info? 3 = some i0 ∧ i0.zero = some (.int .i64 0) ∧ i0.size = 1 ∧ i0.bytes = 8) := ⟨hi, hz0, hz1, hz2⟩
  clear hi hz0 hz1 hz2
  have HC : Hid (∀ k x, l[k]? = some x → IntC w b (off + k * 1) x) := hc
  clear hc
  go_enter Tryz.func168, Tryz.ntmps168
  go_wp2_with fail
  go_loopw [5, 10] (fun u i wr => ∃ (k : Nat) (xs : List Int), k ≤ l.length ∧ i = .int .i64 k ∧ xs.length ≤ k ∧ Hid (wo l at' k = xs) ∧ wr.ownsRow w.heap.size 3 1 u xs.length (xs.map (Value.int .i64)) ∧ Below w.heap.size w wr) (fun _ i _ => l.length - (intOf i).toNat)
  case atStart => exact ⟨0, [], Nat.zero_le _, rfl, Nat.le_refl _, by unfold Hid wo; simp, World.ownsRow_nil _ _ _ _, Below.refl _ _⟩
  case round =>
    obtain ⟨k, xs, hk, rfl, hxk, hn, hown, hb⟩ := hrel
    have hsz := hb.size
    by_cases hlt : k < l.length
    · obtain ⟨x, hx⟩ := get_of_lt hlt
      obtain rfl := ha (ne_nil hlt)
      have c0 := intC_keeps _ _ _ _ _ hb (HC.out k x hx)
      unfold IntC at c0
      rw [Nat.mul_one] at c0
      have hbl := World.block_lt_of_cell? _ _ c0
      have HX : Hid (l[k]? = some x) := hx
      clear hx ha
      by_cases hat : k = at'
      · subst hat
        have hbe : ((k : Int) != (k : Int)) = false := by simp
        have HM : Hid (wo l k (k + 1) = xs) := (wo_skip HX.out rfl).trans hn.out
        clear hn
        go_wp2_with fail
        go_roundw
        case measure => simp [intOf]; omega
        case rel => exact ⟨k + 1, xs, by omega, by go_num, by omega, HM.out, hown, hb⟩
      · have hbe : ((k : Int) != (at' : Int)) = true := by rw [bne_iff_ne]; omega
        have HM : Hid (wo l at' (k + 1) = xs ++ [x]) := (wo_take HX.out hat).trans (by rw [hn.out])
        clear hn
        go_wp2_with (at_builtin; refine append_new _ rfl (.tmp 18) (.tmp 20) 26 rfl w.heap.size 3 i0 (.int .i64 0) 1 8 Tryz.underlying26 HI.out.1 HI.out.2.1 HI.out.2.2.1 HI.out.2.2.2 rfl (by decide) u5 xs.length (xs.map (Value.int .i64)) rfl (hown.alloc _) (some ⟨wr.heap.size, 0, none⟩) 1 1 [.int .i64 x] rfl (fun h => by cases h) rfl (fun ad had => by cases had; exact new_one rfl) (by simp [Value.oneCell']) (by unfold maxLen; omega) (by omega) (by simp; omega) ?_)
        intro u' w1 hown' hgrow _
        have hb' : Below w.heap.size w w1 := Below.grown (hb.alloc hsz _) hgrow (by simp; omega) (fun kk e => (hown.lt kk e).1)
        have HO : Hid (w1.ownsRow w.heap.size 3 1 u' (xs ++ [x]).length ((xs ++ [x]).map (Value.int .i64))) := own_snoc hown'
        clear hgrow hown hown'
        go_wp2_with fail
        go_roundw
        case measure => simp [intOf]; omega
        case rel => exact ⟨k + 1, xs ++ [x], by omega, by go_num, by simp; omega, HM.out, HO.out, hb'⟩
    · have hkl : k = l.length := by omega
      subst hkl
      have HF : Hid (l.eraseIdx at' = xs) := (wo_done l at').symm.trans hn.out
      clear hn ha
      go_wp2_with fail
      go_ret
      exact ⟨_, rfl, by rw [HF.out]; exact owns_int hown, hb⟩

end Go.Proofs.YtomijmikkbhgmaaGreat

namespace Go.Proofs.YtomijmikkbhgmaaGreat
open Go.RowKit

/-- What is left to choose of the weight. -/
theorem chF_cons (n : Nat) (o : List Int) (os : List (List Int)) (wt : Nat) : chF n (o :: os) wt = o.getD (n / (wt / o.length) % o.length) 0 :: chF n os (wt / o.length) := rfl

theorem rdo_hit {E : List Evt} {x : Evt} (h : (x.kind == 0) = true) (R : List Evt) : rdo E (x :: R) = (-1 :: wrs E 0 x.loc) :: rdo E R := by rw [rdo, if_pos h]
theorem rdo_mis {E : List Evt} {x : Evt} (h : (x.kind == 0) = false) (R : List Evt) : rdo E (x :: R) = rdo E R := by rw [rdo, if_neg (by simp [h])]

set_option maxHeartbeats 2000000 in
theorem chooseFrom_any (E : List Evt) (hE : E.length ≤ 96) (v : Value) (w0 w : World) (h : Ev4At w0 v E) (hw : Below w0.heap.size w0 w) (B n wt R : Nat) (hB : w0.heap.size ≤ B) (hc : Chs w B n wt) (hwt : wt = plen (rdo E E) * R) (hR : 1 ≤ R) (hw2 : wt ≤ 2001) (hn2 : n ≤ 2001) :
    Calls Tryz.prog 151 #[.pointer (some ⟨B, 0, none⟩), v] w fun e w' => ∃ u, e = .returned u ∧ IntF w.heap.size w' u (chF n (rdo E E) wt) ∧ Chs w' B n R ∧ Only B w w' := by
  have HH : Hid (Ev4At w0 v E) := h
  obtain ⟨ao, b, off, cap, hv, ha, _, hcc⟩ := h
  subst hv
  obtain ⟨i0, hi, hz0, hz1, hz2⟩ := info_parts Tryz.info3
  have HI : Hid (Tryz.prog.info? 3 = some i0 ∧ i0.zero = some (.int .i64 0) ∧ i0.size = 1 ∧ i0.bytes = 8) := ⟨hi, hz0, hz1, hz2⟩
  clear hi hz0 hz1 hz2
  have HC : Hid (∀ k x, E[k]? = some x → Ev4C w0 b (off + k * 4) x) := hcc
  clear hcc
  have hBl := hc.lt
  have HCH : Hid (Chs w B n wt) := hc
  generalize hL : chF n (rdo E E) wt = L
  have HL : Hid (chF n (rdo E E) wt = L) := hL
  have HWT : Hid (wt = plen (rdo E E) * R) := hwt
  clear hL hwt hc
  go_enter Tryz.func151, Tryz.ntmps151
  go_wp2_with fail
  go_loopw [5, 12] (fun u i wr => ∃ (k : Nat) (xs : List Int) (wk : Nat), k ≤ E.length ∧ i = .int .i64 k ∧ xs.length ≤ k ∧ Hid (L = xs ++ chF n (rdo E (E.drop k)) wk) ∧ Hid (wk = plen (rdo E (E.drop k)) * R) ∧ wk ≤ 2001 ∧ wr.ownsRow w.heap.size 3 1 u xs.length (xs.map (Value.int .i64)) ∧ Chs wr B n wk ∧ Only B w wr) (fun _ i _ => E.length - (intOf i).toNat)
  case atStart => exact ⟨0, [], wt, Nat.zero_le _, rfl, Nat.le_refl _, HL.out.symm, HWT.out, hw2, World.ownsRow_nil _ _ _ _, HCH.out, Only.refl _ _⟩
  case round =>
    obtain ⟨k, xs, wk, hk, rfl, hxk, hn, hwk, hwk2, hown, hch, ho⟩ := hrel
    have hsz := ho.size
    have hbw : Below w0.heap.size w0 wr := hw.trans (ho.below hB hw.size)
    have hchlt := hch.lt
    by_cases hlt : k < E.length
    · obtain ⟨x, hx⟩ := get_of_lt hlt
      obtain rfl := ha (ne_nil hlt)
      obtain ⟨c0, c1, c2, c3⟩ := ev4C_keeps _ _ _ _ _ hbw (HC.out k x hx)
      have hbl := World.block_lt_of_cell? _ _ c0
      have HN : Hid (L = xs ++ chF n (rdo E (x :: E.drop (k + 1))) wk) := by rw [← drop_cons hx]; exact hn
      have HK : Hid (wk = plen (rdo E (x :: E.drop (k + 1))) * R) := by rw [← drop_cons hx]; exact hwk
      have HCK : Hid (Chs wr B n wk) := hch
      have HO : Hid (Only B w wr) := ho
      clear hn hwk hx ha hch ho
      cases h1 : x.kind == 0
      · have HN1 : Hid (L = xs ++ chF n (rdo E (E.drop (k + 1))) wk) := HN.out.trans (by rw [rdo_mis h1])
        have HK1 : Hid (wk = plen (rdo E (E.drop (k + 1))) * R) := HK.out.trans (by rw [rdo_mis h1])
        go_wp2_with fail
        go_roundw
        case measure => simp [intOf]; omega
        case rel => exact ⟨k + 1, xs, wk, by omega, by go_num, by omega, HN1.out, HK1.out, hwk2, hown.alloc _, HCK.out.below (below_alloc _ _), HO.out.trans (Only.of_below (below_alloc _ _))⟩
      · have hwl := wrs_len E 0 x.loc
        have HN1 : Hid (L = xs ++ chF n ((-1 :: wrs E 0 x.loc) :: rdo E (E.drop (k + 1))) wk) := HN.out.trans (by rw [rdo_hit h1])
        have HK1 : Hid (wk = (-1 :: wrs E 0 x.loc).length * (plen (rdo E (E.drop (k + 1))) * R)) := HK.out.trans (by rw [rdo_hit h1, plen, Nat.mul_assoc])
        generalize hO : -1 :: wrs E 0 x.loc = O at HN1 HK1
        have HOO : Hid (-1 :: wrs E 0 x.loc = O) := hO
        have hOl : 1 ≤ O.length ∧ O.length ≤ 97 := by rw [← hO]; simp; omega
        obtain ⟨hO1, hO2⟩ := hOl
        clear hO hwl HN HK
        have hP := plen_pos (rdo_pos E (E.drop (k + 1)))
        have hPR : 1 ≤ plen (rdo E (E.drop (k + 1))) * R := Nat.mul_le_mul hP hR
        have HQ : Hid (wk / O.length = plen (rdo E (E.drop (k + 1))) * R) := by unfold Hid; rw [HK1.out]; exact Nat.mul_div_cancel_left _ hO1
        have hmw : O.length ≤ wk := by rw [HK1.out]; exact Nat.le_mul_of_pos_right _ hPR
        have hat : n / (wk / O.length) % O.length < O.length := Nat.mod_lt _ hO1
        obtain ⟨y, hy⟩ := get_of_lt hat
        have HN2 : Hid (L = (xs ++ [y]) ++ chF n (rdo E (E.drop (k + 1))) (wk / O.length)) := HN1.out.trans (by rw [chF_cons, List.getD, hy]; simp)
        have hwk3 : wk / O.length ≤ 2001 := Nat.le_trans (Nat.div_le_self _ _) hwk2
        generalize hr : n / (wk / O.length) % O.length = r at hat hy
        have HR : Hid (n / (wk / O.length) % O.length = r) := hr
        have HY : Hid (O[r]? = some y) := hy
        clear hr hy hP hPR
        go_wp2_with fail
        refine (sources_any E hE x.loc _ _ (HH.out.keep (below_more hbw (below_alloc _ _)))).mono ?_
        rw [HOO.out]
        rintro e w3 ⟨u2, rfl, hu2, hb3⟩
        obtain ⟨ao4, b4, off4, cap4, ⟨hv4, ha4, _, hc4⟩, hb4⟩ := hu2
        subst hv4
        obtain rfl := ha4 (ne_nil (by omega : 0 < O.length))
        simp only [World.size_alloc] at hb4
        have hown3 := own_keep (hown.alloc _) hb3
        have hC3 := (HCK.out.below (below_alloc _ _)).below hb3
        have HO3 : Hid (Only B w w3) := HO.out.trans (Only.of_below (below_more (below_alloc _ _) hb3))
        have hap4 : ∀ g, u5.ownBlock = some g → g ≠ b4 := fun g hg => by have := (hown.lt g hg).2; omega
        have hs3 : wr.heap.size + 1 ≤ w3.heap.size := by have := hb3.size; simpa using this
        have HY4 : Hid (w3.cell? ⟨b4, off4 + r, none⟩ = some (.int .i64 y)) := by
          have := hc4 r y HY.out; unfold IntC at this; rwa [Nat.mul_one] at this
        clear hb3 hc4 ha4 hown c0 c1 c2 c3 HCK HO
        go_wp2_with fail
        refine (next_any B n wk O.length _ hC3 hO1 hmw hwk2 hn2).mono ?_
        rw [HR.out]
        rintro e w4 ⟨rfl, hC4, ho4⟩
        have hnB : ∀ g, u5.ownBlock = some g → g ≠ B := fun g hg => by have := (hown3.lt g hg).1; omega
        have hown4 : w4.ownsRow w.heap.size 3 1 u5 xs.length (xs.map (Value.int .i64)) := by
          refine ⟨hown3.1, ?_⟩
          rcases hown3.2 with h2 | ⟨g, cap, cur, hv, hg, hh, r⟩
          · exact Or.inl h2
          · exact Or.inr ⟨g, cap, cur, hv, hg, by rw [ho4.block g (Array.getElem?_eq_some_iff.1 hh).1 (hnB g (by rw [hv]; rfl))]; exact hh, r⟩
        have y4 := ho4.cell HY4.out (by omega)
        have hl4 := World.block_lt_of_cell? _ _ y4
        have hs4 := ho4.size
        have HO4 : Hid (Only B w w4) := HO3.out.trans ho4
        have HC4 : Hid (Chs w4 B n (wk / O.length)) := hC4
        have hrI : (r : Int) < (O.length : Int) := by omega
        clear hown3 hC3 HO3 ho4 hC4 HY4
        go_wp2_with (at_builtin; refine append_new _ rfl (.tmp 27) (.tmp 32) 26 rfl w.heap.size 3 i0 (.int .i64 0) 1 8 Tryz.underlying26 HI.out.1 HI.out.2.1 HI.out.2.2.1 HI.out.2.2.2 rfl (by decide) u5 xs.length (xs.map (Value.int .i64)) rfl (hown4.alloc _) (some ⟨w4.heap.size, 0, none⟩) 1 1 [.int .i64 y] rfl (fun h => by cases h) rfl (fun ad had => by cases had; exact new_one rfl) (by simp [Value.oneCell']) (by unfold maxLen; omega) (by omega) (by simp; omega) ?_)
        intro u' w5 hown' hgrow _
        have HO5 : Hid (Only B w w5) := Only.grown (n := w.heap.size) hgrow (fun kk e => (hown4.lt kk e).1) (HO4.out.trans (Only.of_below (below_alloc _ _))) (Nat.le_refl _)
        have HC5 : Hid (Chs w5 B n (wk / O.length)) := (HC4.out.below (below_alloc _ _)).keep (hgrow.block B (by have := HC4.out.lt; simp; omega) (fun e => hnB B e.symm rfl))
        have HW5 : Hid (w5.ownsRow w.heap.size 3 1 u' (xs ++ [y]).length ((xs ++ [y]).map (Value.int .i64))) := own_snoc hown'
        clear hgrow hown4 hown' HO4 HC4 y4
        go_wp2_with fail
        go_roundw
        case measure => simp [intOf]; omega
        case rel => exact ⟨k + 1, xs ++ [y], wk / O.length, by omega, by go_num, by simp; omega, HN2.out, HQ.out, hwk3, HW5.out, HC5.out, HO5.out⟩
    · have HF : Hid (L = xs) := hn.out.trans (by rw [drop_nil hlt]; simp [rdo, chF])
      have hRk : wk = R := hwk.out.trans (by rw [drop_nil hlt]; simp [rdo, plen])
      subst hRk
      have HCK : Hid (Chs wr B n wk) := hch
      have HO : Hid (Only B w wr) := ho
      clear hn hwk ha hch ho
      go_wp2_with fail
      go_ret
      exact ⟨_, rfl, by rw [HF.out]; exact hown, HCK.out, HO.out⟩

end Go.Proofs.YtomijmikkbhgmaaGreat

namespace Go.Proofs.YtomijmikkbhgmaaGreat
open Go.RowKit

theorem chO_cons (n m : Nat) (l : List Int) (wt : Nat) : chO n (m + 1) l wt = l.getD (n / (wt / l.length) % l.length) 0 :: chO n m (l.eraseIdx (n / (wt / l.length) % l.length)) (wt / l.length) := rfl

theorem own_only {B : Nat} {w w' : World} {base : Nat} {e : TypeId} {size : Nat} {v : Value} {n : Nat} {xs : List Value} (h : w.ownsRow base e size v n xs) (ho : Only B w w') (hB : ∀ g, v.ownBlock = some g → g ≠ B) : w'.ownsRow base e size v n xs := by
  refine ⟨h.1, ?_⟩
  rcases h.2 with h2 | ⟨g, cap, cur, hv, hg, hh, r⟩
  · exact Or.inl h2
  · exact Or.inr ⟨g, cap, cur, hv, hg, by rw [ho.block g (Array.getElem?_eq_some_iff.1 hh).1 (hB g (by rw [hv]; rfl))]; exact hh, r⟩

set_option maxHeartbeats 2000000 in
theorem chooseOrder_any (l : List Int) (hl : l.length ≤ 96) (v : Value) (w : World) (ao : Option Addr) (b off cap : Nat) (h : SlAt w 1 IntC v l ao b off cap) (B n wt R : Nat) (hbB : b ≠ B) (_hbw : l ≠ [] → b < w.heap.size) (hc : Chs w B n wt) (hwt : wt = fac l.length * R) (hR : 1 ≤ R) (hw2 : wt ≤ 2001) (hn2 : n ≤ 2001) :
    Calls Tryz.prog 152 #[.pointer (some ⟨B, 0, none⟩), v] w fun e w' => ∃ u, e = .returned u ∧ IntF w.heap.size w' u (chO n l.length l wt) ∧ Chs w' B n R ∧ Only B w w' := by
  have HH : Hid (SlAt w 1 IntC v l ao b off cap) := h
  have hv := h.hv
  clear h
  subst hv
  obtain ⟨i0, hi, hz0, hz1, hz2⟩ := info_parts Tryz.info3
  have HI : Hid (Tryz.prog.info? 3 = some i0 ∧ i0.zero = some (.int .i64 0) ∧ i0.size = 1 ∧ i0.bytes = 8) := ⟨hi, hz0, hz1, hz2⟩
  clear hi hz0 hz1 hz2
  have hBl := hc.lt
  have HCH : Hid (Chs w B n wt) := hc
  generalize hL : chO n l.length l wt = L
  have HL : Hid (chO n l.length l wt = L) := hL
  have HWT : Hid (wt = fac l.length * R) := hwt
  clear hL hwt hc
  go_enter Tryz.func152, Tryz.ntmps152
  go_wp2_with fail
  go_loopg [5, 6] l.length (fun gk u vl wr => ∃ (xs lf : List Int) (wk : Nat) (ao : Option Addr) (b off cap : Nat), lf.length = gk ∧ vl = .slice ao lf.length cap ∧ xs.length + lf.length ≤ 96 ∧ Hid (L = xs ++ chO n lf.length lf wk) ∧ Hid (wk = fac lf.length * R) ∧ wk ≤ 2001 ∧ wr.ownsRow w.heap.size 3 1 u xs.length (xs.map (Value.int .i64)) ∧ SlAt wr 1 IntC vl lf ao b off cap ∧ b ≠ B ∧ (lf ≠ [] → ∀ g, u.ownBlock = some g → g ≠ b) ∧ Chs wr B n wk ∧ Only B w wr)
  case atStart =>
    exact ⟨[], l, wt, ao, b, off, cap, rfl, rfl, by simpa using hl, HL.out.symm, HWT.out, hw2, World.ownsRow_nil _ _ _ _, HH.out, hbB, fun _ g hg => by simp [Value.ownBlock] at hg, HCH.out, Only.refl _ _⟩
  case round =>
    obtain ⟨xs, lf, wk, aoL, bL, offL, capL, hgk, rfl, hxl, hn, hwk, hwk2, hown, hsl, hbL, hap, hch, ho⟩ := hrel
    clear HH
    have HG : Hid (lf.length = gk) := hgk
    clear hgk
    have hsz := ho.size
    have HCK : Hid (Chs wr B n wk) := hch
    have HO : Hid (Only B w wr) := ho
    have HSL : Hid (SlAt wr 1 IntC (.slice aoL lf.length capL) lf aoL bL offL capL) := hsl
    have ha := hsl.ha
    clear hch ho hsl
    by_cases hlt : 0 < lf.length
    · obtain rfl := ha (ne_nil hlt)
      obtain ⟨m, hm⟩ : ∃ m, lf.length = m + 1 := ⟨lf.length - 1, by omega⟩
      have HM : Hid (lf.length = m + 1) := hm
      have HQ : Hid (wk / lf.length = fac m * R) := by unfold Hid; rw [hwk.out, hm, fac, Nat.mul_assoc]; exact Nat.mul_div_cancel_left _ (by omega)
      have hmw : lf.length ≤ wk := by rw [hwk.out, hm, fac, Nat.mul_assoc]; exact Nat.le_mul_of_pos_right _ (Nat.mul_le_mul (fac_pos m) hR)
      have hat : n / (wk / lf.length) % lf.length < lf.length := Nat.mod_lt _ hlt
      obtain ⟨y, hy⟩ := get_of_lt hat
      have HN2 : Hid (L = (xs ++ [y]) ++ chO n m (lf.eraseIdx (n / (wk / lf.length) % lf.length)) (wk / lf.length)) := hn.out.trans (by
        have e : chO n lf.length lf wk = chO n (m + 1) lf wk := by rw [hm]
        rw [e, chO_cons, List.getD, hy]; simp)
      have hwk3 : wk / lf.length ≤ 2001 := Nat.le_trans (Nat.div_le_self _ _) hwk2
      generalize hr : n / (wk / lf.length) % lf.length = r at hat hy HN2
      have HR : Hid (n / (wk / lf.length) % lf.length = r) := hr
      have HY : Hid (lf[r]? = some y) := hy
      have hap' := hap (ne_nil hlt)
      have HA : Hid ((lf.eraseIdx r).length = m) := by unfold Hid; rw [List.length_eraseIdx, if_pos hat]; omega
      clear hr hy hn hm ha hap
      go_wp2_with fail
      refine (next_any B n wk lf.length _ HCK.out hlt hmw hwk2 hn2).mono ?_
      rw [HR.out]
      rintro e w4 ⟨rfl, hC4, ho4⟩
      have hnB : ∀ g, u5.ownBlock = some g → g ≠ B := fun g hg => by have := (hown.lt g hg).1; omega
      have hown4 := own_only hown ho4 hnB
      have HSL4 : Hid (SlAt w4 1 IntC (.slice (some ⟨bL, offL, none⟩) lf.length capL) lf (some ⟨bL, offL, none⟩) bL offL capL) := IntAt.only HSL.out ho4 hbL
      have y4 : w4.cell? ⟨bL, offL + r, none⟩ = some (.int .i64 y) := by
        have := HSL4.out.hc r y HY.out; unfold IntC at this; rwa [Nat.mul_one] at this
      have hl4 := World.block_lt_of_cell? _ _ y4
      have hs4 := ho4.size
      have HO4 : Hid (Only B w w4) := HO.out.trans ho4
      have HC4 : Hid (Chs w4 B n (wk / lf.length)) := hC4
      have hrI : (r : Int) < (lf.length : Int) := by omega
      clear hown HO ho4 hC4 HSL HCK
      go_wp2_with (at_builtin; refine append_new _ rfl (.tmp 16) (.tmp 21) 26 rfl w.heap.size 3 i0 (.int .i64 0) 1 8 Tryz.underlying26 HI.out.1 HI.out.2.1 HI.out.2.2.1 HI.out.2.2.2 rfl (by decide) u5 xs.length (xs.map (Value.int .i64)) rfl (hown4.alloc _) (some ⟨w4.heap.size, 0, none⟩) 1 1 [.int .i64 y] rfl (fun h => by cases h) rfl (fun ad had => by cases had; exact new_one rfl) (by simp [Value.oneCell']) (by unfold maxLen; omega) (by omega) (by simp; omega) ?_)
      intro u' w5 hown' hgrow hap5
      have HO5 : Hid (Only B w w5) := Only.grown (n := w.heap.size) hgrow (fun kk e => (hown4.lt kk e).1) (HO4.out.trans (Only.of_below (below_alloc _ _))) (Nat.le_refl _)
      have HC5 : Hid (Chs w5 B n (wk / lf.length)) := (HC4.out.below (below_alloc _ _)).keep (hgrow.block B (by have := HC4.out.lt; simp; omega) (fun e => hnB B e.symm rfl))
      have HW5 : Hid (w5.ownsRow w.heap.size 3 1 u' (xs ++ [y]).length ((xs ++ [y]).map (Value.int .i64))) := own_snoc hown'
      have HSL5 : Hid (IntAt w5 (.slice (some ⟨bL, offL, none⟩) lf.length capL) lf) :=
        ⟨_, bL, offL, capL, rfl, fun _ => rfl, fun h => by simp at h, fun j x hx => hgrow.cell (keep_cell (below_alloc _ _) (HSL4.out.hc j x hx)) (fun e => hap' bL e.symm rfl)⟩
      have hs5 : w4.heap.size + 1 ≤ w5.heap.size := by have := hgrow.size; simpa using this
      clear hgrow hown4 hown' HO4 HC4 y4 HSL4 hap5
      go_wp2_with fail
      refine (without_any lf (by omega) r _ _ HSL5.out).mono ?_
      rintro e w6 ⟨u6, rfl, hu6, hb6⟩
      obtain ⟨ao6, b6, off6, cap6, hsl6, hb66⟩ := hu6
      have hv6 := hsl6.hv
      subst hv6
      have HS6 : Hid (SlAt w6 1 IntC (.slice ao6 (lf.eraseIdx r).length cap6) (lf.eraseIdx r) ao6 b6 off6 cap6) := hsl6
      have HO6 : Hid (Only B w w6) := HO5.out.trans (Only.of_below hb6)
      have HC6 : Hid (Chs w6 B n (wk / lf.length)) := HC5.out.below hb6
      have HW6 : Hid (w6.ownsRow w.heap.size 3 1 u' (xs ++ [y]).length ((xs ++ [y]).map (Value.int .i64))) := own_keep HW5.out hb6
      have HAP : Hid (∀ g, u'.ownBlock = some g → g ≠ b6) := fun g hg => by have := (HW5.out.lt g hg).2; omega
      have HB6 : Hid (b6 ≠ B) := by unfold Hid; omega
      clear hsl6 hb6 hb66 HO5 HC5 HW5 HSL5
      go_wp2_with fail
      go_roundg m
      case measure => have := HM.out; have := HG.out; omega
      case rel =>
        have e := HA.out
        refine ⟨xs ++ [y], lf.eraseIdx r, wk / lf.length, ao6, b6, off6, cap6, e, rfl, by simp only [List.length_append, List.length_cons, List.length_nil]; rw [e]; have := HM.out; omega, ?_, ?_, hwk3, HW6.out, HS6.out, HB6.out, fun _ => HAP.out, HC6.out, HO6.out⟩
        · unfold Hid; rw [e]; exact HN2.out
        · unfold Hid; rw [e]; exact HQ.out
    · have h0 : lf = [] := List.eq_nil_of_length_eq_zero (by omega)
      subst h0
      have HF : Hid (L = xs) := hn.out.trans (by simp [chO])
      have hRk : wk = R := hwk.out.trans (by simp [fac])
      subst hRk
      clear hn hwk ha hap
      go_wp2_with fail
      go_ret
      exact ⟨_, rfl, by rw [HF.out]; exact hown, HCK.out, HO.out⟩

end Go.Proofs.YtomijmikkbhgmaaGreat

namespace Go.Proofs.YtomijmikkbhgmaaGreat
open Go.RowKit


/-- Of a candidate the order of the writes of location j. -/
def ordJ (E : List Evt) (n j : Nat) : List Int := chO n (wrs E 0 (j : Int)).length (wrs E 0 (j : Int)) (facL E j)
theorem exN_order (E : List Evt) (n : Nat) : (exN E n).order = (List.range 3).map (ordJ E n) := rfl

theorem Only.setCellN (B o : Nat) (u : Value) (w : World) : Only B w (w.setCell ⟨B, o, none⟩ u) :=
  ⟨rfl, rfl, rfl, by simp [World.setCell], fun k _ hn => Below.heap_setCell w ⟨B, o, none⟩ u k hn⟩

/-- What Nth answers: no such candidate. -/
def noExe : Value := .tuple #[.agg #[.slice none 0 0, .slice none 0 0], .int .i64 6]

theorem own2s {w w3 : World} {a b : Value} {t : TypeId} (hb : Below (w.heap.size + 1) (w.alloc (.cells #[a, b] t)) w3) :
    w3.cell? ⟨w.heap.size, 0, none⟩ = some a ∧ w3.cell? ⟨w.heap.size, 1, none⟩ = some b ∧ w3.frozen? ⟨w.heap.size, 0, none⟩ = false ∧ w3.frozen? ⟨w.heap.size, 1, none⟩ = false ∧ w.heap.size < w3.heap.size := by
  have h1 := hb.cell (p := ⟨w.heap.size, 0, none⟩) (by simp)
  have h2 := hb.cell (p := ⟨w.heap.size, 1, none⟩) (by simp)
  have h3 := hb.frozen (p := ⟨w.heap.size, 0, none⟩) (by simp)
  have h4 := hb.frozen (p := ⟨w.heap.size, 1, none⟩) (by simp)
  have h5 := hb.size
  simp at h1 h2 h3 h4 h5
  exact ⟨h1, h2, h3, h4, by omega⟩

set_option maxHeartbeats 2000000 in
theorem nth_no (E : List Evt) (hE : E.length ≤ 96) (v : Value) (n : Int) (w : World) (h : Ev4At w v E) (hn : n < 0 ∨ (sizeN E : Int) ≤ n) (hs : sizeN E ≤ 2000) :
    Calls Tryz.prog 119 #[v, .int .i64 n] w fun e w' => e = .returned noExe ∧ Below w.heap.size w w' := by
  have HH : Hid (Ev4At w v E) := h
  have hS : cap2 (sizeN E) = sizeN E := cap2_of_le (by omega)
  generalize hSS : sizeN E = S at hn hs hS
  have HS : Hid (cap2 (sizeN E) = S) := by rw [hSS]; exact hS
  clear hS hSS h
  rcases hn with hn | hn
  all_goals
    go_enter Tryz.func119, Tryz.ntmps119
    go_wp2_with fail
    refine (countP_any E hE v _ (HH.out.keep (below_alloc _ _))).mono ?_
    rw [HS.out]
    rintro e w3 ⟨rfl, hb3⟩
    rw [World.size_alloc] at hb3
    obtain ⟨d0, d1, f0, f1, s3⟩ := own2s hb3
    have hb4 : Below w.heap.size w w3 := (below_alloc _ _).trans (hb3.mono (by omega))
    clear hb3
    go_wp2_with fail
    exact bodyPost_ret (v := .tuple #[.agg #[.slice none 0 0, .slice none 0 0], .int .i64 6]) (by simp [results, Tryz.results119, go_sem, *]) rfl
      ⟨rfl, (hb4.setCell (Nat.le_refl _) _).setCell (Nat.le_refl _) _⟩

/-- An execution that is new: from block B on. -/
structure ExeN (B : Nat) (w : World) (vf vo : Value) (x : Exe) : Prop where
  f : ∃ ao b off cap, SlAt w 1 IntC vf x.from' ao b off cap ∧ B ≤ b
  o : LstNew B w vo x.order
theorem ExeN.at' {B : Nat} {w : World} {vf vo : Value} {x : Exe} (h : ExeN B w vf vo x) : ExeAt w vf vo x := by
  obtain ⟨ao, b, off, cap, hs, _⟩ := h.f
  exact ⟨⟨ao, b, off, cap, hs⟩, h.o.at'⟩
theorem ExeN.other {B : Nat} {w w' : World} {vf vo : Value} {x : Exe} (h : ExeN B w vf vo x) (hs : ∀ b, B ≤ b → b < w.heap.size → w'.heap[b]? = w.heap[b]?) : ExeAt w' vf vo x := by
  obtain ⟨ao, b, off, cap, ⟨hv, ha, hn, hc⟩, hB⟩ := h.f
  obtain ⟨ao2, b2, off2, cap2, hv2, ha2, hn2, hB2, hc2⟩ := h.o
  refine ⟨⟨ao, b, off, cap, hv, ha, hn, fun k y hy => ?_⟩, ao2, b2, off2, cap2, hv2, ha2, hn2, fun k y hy => ?_⟩
  · have hcc := hc k y hy
    exact cell_heap (hs b hB (World.block_lt_of_cell? _ _ hcc)) hcc
  · obtain ⟨u, h1, h2, h3⟩ := hc2 k y hy
    rw [Nat.mul_one]
    exact ⟨u, cell_heap (hs b2 hB2 (World.block_lt_of_cell? _ _ h1)) h1, (h2.other (fun g hg => hs g (h3 g hg).1 (h3 g hg).2)).at'⟩
theorem LstNew.less {B B' : Nat} {w : World} {v : Value} {L : List (List Int)} (h : LstNew B w v L) (hb : B' ≤ B) : LstNew B' w v L := by
  obtain ⟨ao, b, off, cap, hv, ha, hn, hB, hc⟩ := h
  refine ⟨ao, b, off, cap, hv, ha, hn, Nat.le_trans hb hB, fun k x hx => ?_⟩
  obtain ⟨u, h1, h2, h3⟩ := hc k x hx
  exact ⟨u, h1, h2, fun g hg => ⟨Nat.le_trans hb (h3 g hg).1, (h3 g hg).2⟩⟩

theorem own_tyN {w : World} {base : Nat} {e : TypeId} {s : Nat} {v : Value} {n : Nat} {xs : List Value} (h : w.ownsRow base e s v n xs) {b : Nat} (hb : v.ownBlock = some b) : ∃ cur, w.heap[b]? = some (.cells cur e (0, 0)) := by
  rcases h.2 with ⟨rfl, _⟩ | ⟨g, cap, cur, rfl, _, hh, _⟩
  · cases hb
  · cases hb; exact ⟨cur, hh⟩

/-- Lists of numbers in a row: the row and each list in a whole block of its own. -/
structure LF (B : Nat) (w : World) (V : Value) (L : List (List Int)) (vs : List Value) : Prop where
  own : w.ownsRow B 26 1 V L.length vs
  rows : ∀ (j : Nat) (x : List Int), L[j]? = some x → ∃ u, vs[j]? = some u ∧ IntF B w u x
  apart : ∀ (i j : Nat) (u v : Value) (b : Nat), i < j → vs[i]? = some u → vs[j]? = some v → u.ownBlock = some b → v.ownBlock ≠ some b
theorem LF.nil (B : Nat) (w : World) : LF B w (.slice none 0 0) [] [] := ⟨World.ownsRow_nil _ _ _ _, fun j x h => by simp at h, fun i j u v b _ h => by simp at h⟩
theorem LF.len {B : Nat} {w : World} {V : Value} {L : List (List Int)} {vs : List Value} (h : LF B w V L vs) : vs.length = L.length := by have := h.own.1; omega
theorem LF.other {B : Nat} {w w' : World} {V : Value} {L : List (List Int)} {vs : List Value} (h : LF B w V L vs) (hs : ∀ b : Nat, B ≤ b → b < w.heap.size → w'.heap[b]? = w.heap[b]?) : LF B w' V L vs := by
  refine ⟨own_other h.own fun b hb => hs b (h.own.lt b hb).1 (h.own.lt b hb).2, fun j x hx => ?_, h.apart⟩
  obtain ⟨u, h1, h2⟩ := h.rows j x hx
  exact ⟨u, h1, own_other h2 fun b hb => hs b (World.ownsRow.lt h2 b hb).1 (World.ownsRow.lt h2 b hb).2⟩
theorem LF.keep {B : Nat} {w w' : World} {V : Value} {L : List (List Int)} {vs : List Value} (h : LF B w V L vs) (hb : Below w.heap.size w w') : LF B w' V L vs := h.other fun b _ hl => hb.block b hl
theorem LF.only {B C : Nat} {w w' : World} {V : Value} {L : List (List Int)} {vs : List Value} (h : LF B w V L vs) (ho : Only C w w') (hC : C < B) : LF B w' V L vs := h.other fun b h1 h2 => ho.block b h2 (by omega)
theorem LF.row {B : Nat} {w : World} {V : Value} {L : List (List Int)} {vs : List Value} (h : LF B w V L vs) {j : Nat} {u : Value} (hu : vs[j]? = some u) : ∃ x, L[j]? = some x ∧ IntF B w u x := by
  obtain ⟨x, hx⟩ := get_of_lt (l := L) (k := j) (by have := (List.getElem?_eq_some_iff.1 hu).1; rw [h.len] at this; exact this)
  obtain ⟨u', h1, h2⟩ := h.rows j x hx
  rw [hu] at h1
  cases h1
  exact ⟨x, hx, h2⟩
theorem LF.snoc {B C : Nat} {w w2 : World} {V V' : Value} {L : List (List Int)} {vs : List Value} (h : LF B w V L vs) {x : List Int} {u : Value} {o : Obj} (hu : IntF C w u x) (hBC : B ≤ C) (hold : ∀ (j : Nat) (z : Value) (b : Nat), vs[j]? = some z → z.ownBlock = some b → b < C) (hown : w2.ownsRow B 26 1 V' (L.length + 1) (vs ++ [u])) (hg : (w.alloc o).grownBy w2 V.ownBlock) : LF B w2 V' (L ++ [x]) (vs ++ [u]) := by
  have key : ∀ {C : Nat} {z : Value} {y : List Int}, IntF C w z y → IntF C w2 z y := fun hz => own_other hz fun b hb => by
    obtain ⟨cur, hh⟩ := own_tyN hz hb
    have hl := (World.ownsRow.lt hz b hb).2
    rw [hg.block b (by simp; omega) (fun e => ?_), Below.heap_alloc _ _ _ hl]
    obtain ⟨cur', hh'⟩ := own_tyN h.own e.symm
    rw [hh] at hh'
    cases hh'
  have hlen := h.len
  refine ⟨by simpa using hown, fun j y hy => ?_, fun i j a z b hij ha hz hb => ?_⟩
  · by_cases hj : j < L.length
    · rw [List.getElem?_append_left hj] at hy
      obtain ⟨z, h1, h2⟩ := h.rows j y hy
      exact ⟨z, by rw [List.getElem?_append_left (by omega)]; exact h1, key h2⟩
    · have hjL : j = L.length := by
        have := (List.getElem?_eq_some_iff.1 hy).1
        simp at this; omega
      subst hjL
      rw [List.getElem?_append_right (Nat.le_refl _), Nat.sub_self] at hy
      simp at hy
      subst hy
      exact ⟨u, by rw [← hlen, List.getElem?_append_right (Nat.le_refl _), Nat.sub_self]; rfl, own_base (key hu) hBC⟩
  · have hjl : j ≤ vs.length := by
      have := (List.getElem?_eq_some_iff.1 hz).1
      rw [List.length_append] at this
      simp at this
      omega
    rw [List.getElem?_append_left (by omega)] at ha
    by_cases hj : j < vs.length
    · rw [List.getElem?_append_left hj] at hz
      exact h.apart i j a z b hij ha hz hb
    · have : j = vs.length := by omega
      subst this
      rw [List.getElem?_append_right (Nat.le_refl _), Nat.sub_self] at hz
      simp at hz
      subst hz
      intro e
      have h1 := (World.ownsRow.lt hu b e).1
      have h2 := hold i a b ha hb
      omega

/-- An execution in lists of its own, no two in one block. -/
structure ExeF (B : Nat) (w : World) (vf vo : Value) (x : Exe) : Prop where
  f : IntF B w vf x.from'
  o : ∃ vs, LF B w vo x.order vs ∧ ∀ (j : Nat) (u : Value) (b : Nat), vs[j]? = some u → vf.ownBlock = some b → u.ownBlock ≠ some b
theorem ExeF.new {B : Nat} {w : World} {vf vo : Value} {x : Exe} (h : ExeF B w vf vo x) : ExeN B w vf vo x := by
  obtain ⟨vs, ho, _⟩ := h.o
  refine ⟨?_, ?_⟩
  · obtain ⟨ao, b, off, cap, hs, hB, _⟩ := h.f.new
    exact ⟨ao, b, off, cap, hs, hB⟩
  · rcases ho.own.2 with ⟨hv, hn⟩ | ⟨g, cap, cur, hv, hg, hh, _⟩
    · have h0 : x.order = [] := List.eq_nil_of_length_eq_zero hn
      rw [h0]
      exact ⟨none, B, 0, 0, hv, fun h => absurd rfl h, fun _ => ⟨rfl, rfl⟩, Nat.le_refl _, fun k x h => by simp at h⟩
    · refine ⟨_, g, 0, cap, hv, fun _ => rfl, fun h => (by simp at h), hg, fun k y hk => ?_⟩
      obtain ⟨u, h1, h2⟩ := ho.rows k y hk
      have := ho.own.cells (g := g) (by rw [hv]; rfl) k u h1
      rw [Addr.add_lit] at this
      exact ⟨u, this, h2.new.cap, fun b hb => World.ownsRow.lt h2 b hb⟩
theorem ExeF.other {B : Nat} {w w' : World} {vf vo : Value} {x : Exe} (h : ExeF B w vf vo x) (hs : ∀ b : Nat, B ≤ b → b < w.heap.size → w'.heap[b]? = w.heap[b]?) : ExeF B w' vf vo x := by
  obtain ⟨vs, ho, ha⟩ := h.o
  exact ⟨own_other h.f fun b hb => hs b (World.ownsRow.lt h.f b hb).1 (World.ownsRow.lt h.f b hb).2, vs, ho.other hs, ha⟩

set_option maxHeartbeats 4000000 in
theorem nth_own (E : List Evt) (hE : E.length ≤ 96) (v : Value) (n : Nat) (w : World) (h : Ev4At w v E) (hn : n < sizeN E) (hs : sizeN E ≤ 2000) :
    Calls Tryz.prog 119 #[v, .int .i64 n] w fun e w' => ∃ vf vo, e = .returned (.tuple #[.agg #[vf, vo], .int .i64 0]) ∧ ExeF w.heap.size w' vf vo (exN E n) ∧ Below w.heap.size w w' := by
  have HH : Hid (Ev4At w v E) := h
  have hS : cap2 (sizeN E) = sizeN E := cap2_of_le (by omega)
  have hP : sizeN E = plen (rdo E E) * facL E 0 := by rw [plen_rdo]; rfl
  have HX : Hid ((exN E n).from' = chF n (rdo E E) (sizeN E)) := rfl
  generalize hSS : sizeN E = S at hn hs hS hP HX
  have HS : Hid (cap2 (sizeN E) = S) := by rw [hSS]; exact hS
  have HP : Hid (S = plen (rdo E E) * facL E 0) := hP
  clear hS hSS h hP
  obtain ⟨i0, hi, hz0, hz1, hz2⟩ := info_parts Tryz.infoInts
  have HI : Hid (Tryz.prog.info? 26 = some i0 ∧ i0.zero = some (.slice none 0 0) ∧ i0.size = 1 ∧ i0.bytes = 24) := ⟨hi, hz0, hz1, hz2⟩
  clear hi hz0 hz1 hz2
  go_enter Tryz.func119, Tryz.ntmps119
  go_wp2_with fail
  refine (countP_any E hE v _ (HH.out.keep (below_alloc _ _))).mono ?_
  rw [HS.out]
  rintro e w3 ⟨rfl, hb3⟩
  rw [World.size_alloc] at hb3
  obtain ⟨d0, d1, f0, f1, s3⟩ := own2s hb3
  have hb4 : Below w.heap.size w w3 := (below_alloc _ _).trans (hb3.mono (by omega))
  clear hb3
  go_wp2_with fail
  have hC0 : Chs (w3.alloc (.cells #[.int .i64 n, .int .i64 S] 184)) w3.heap.size n S := ⟨by simp, by simp, by simp, by simp⟩
  refine (chooseFrom_any E hE v w _ HH.out (hb4.alloc hb4.size _) w3.heap.size n S (facL E 0) hb4.size hC0 HP.out (facL_pos E 0) (by omega) (by omega)).mono ?_
  rintro e w5 ⟨uf, rfl, huf, hC5, hO5⟩
  have hbf : ∀ g, uf.ownBlock = some g → w3.heap.size + 1 ≤ g ∧ g < w5.heap.size := fun g hg => by have := World.ownsRow.lt huf g hg; simpa using this
  obtain ⟨aof, capf, hfu⟩ : ∃ ao cap, uf = .slice ao (chF n (rdo E E) S).length cap := by obtain ⟨ao, cap, q, _⟩ := own_form huf; exact ⟨ao, cap, q⟩
  subst hfu
  have hO3 : Only w3.heap.size w3 w5 := (Only.of_below (below_alloc _ _)).trans hO5
  replace d0 := hO3.cell d0 (by omega)
  replace d1 := hO3.cell d1 (by omega)
  have hfz : ∀ o, w5.frozen? ⟨w.heap.size, o, none⟩ = w3.frozen? ⟨w.heap.size, o, none⟩ := fun o => World.frozen?_of_block (w := w3) (hO3.block w.heap.size (by omega) (by omega))
  replace f0 := (hfz 0).trans f0
  replace f1 := (hfz 1).trans f1
  have hb5 : Below w.heap.size w w5 := hb4.trans (hO3.below hb4.size hb4.size)
  have hs5 : w3.heap.size + 1 ≤ w5.heap.size := by have := hO5.size; simpa using this
  generalize hB3 : w3.heap.size = B at *
  clear hB3
  have HF : Hid (IntF w.heap.size w5 (.slice aof (chF n (rdo E E) S).length capf) (chF n (rdo E E) S)) := own_base huf (by have := hb4.size; simp; omega)
  have HFB : Hid (∀ g, (Value.slice aof (chF n (rdo E E) S).length capf).ownBlock = some g → B + 1 ≤ g ∧ g < w5.heap.size) := hbf
  have HC5 : Hid (Chs w5 B n (facL E 0)) := hC5
  clear hC5 hO5 hO3 hC0 hfz hbf huf
  go_wp2_with fail
  go_loopw [9, 10] (fun u i wr => ∃ (j : Nat) (aoV : Option Addr) (capV : Nat) (vs : List Value), j ≤ 3 ∧ i = .int .i64 j ∧ u = .slice aoV j capV ∧ LF w5.heap.size wr (.slice aoV j capV) ((List.range j).map (ordJ E n)) vs ∧ Chs wr B n (facL E j) ∧ Only B w5 wr) (fun _ i _ => 3 - (intOf i).toNat)
  case atStart => exact ⟨0, none, 0, [], by omega, rfl, rfl, LF.nil _ _, HC5.out, Only.refl _ _⟩
  case round =>
    obtain ⟨j, aoV, capV, vs, hj, rfl, rfl, hLL, hch, ho⟩ := hrel
    have HLL : Hid (LF w5.heap.size wr (.slice aoV j capV) ((List.range j).map (ordJ E n)) vs) := hLL
    have HCH : Hid (Chs wr B n (facL E j)) := hch
    have HO : Hid (Only B w5 wr) := ho
    have hsz := ho.size
    have hBl := hch.lt
    clear hLL hch ho HC5
    by_cases hlt : j < 3
    · have hbr : Below w.heap.size w wr := hb5.trans (HO.out.below (by omega) hb5.size)
      have hwl := wrs_len E 0 (j : Int)
      have HST : Hid (facL E j = fac (wrs E 0 (j : Int)).length * facL E (j + 1)) := facL_step E j hlt
      have HOJ : Hid (ordJ E n j = chO n (wrs E 0 (j : Int)).length (wrs E 0 (j : Int)) (facL E j)) := rfl
      have hle : facL E j ≤ 2001 := by
        have h1 : facL E j ≤ facL E 0 := by
          have a := fac_pos (wrs E 0 0).length
          have b := fac_pos (wrs E 0 1).length
          have e0 : facL E 0 = fac (wrs E 0 0).length * facL E 1 := rfl
          have e1 : facL E 1 = fac (wrs E 0 1).length * facL E 2 := rfl
          have h01 : facL E 1 ≤ facL E 0 := by rw [e0]; exact Nat.le_mul_of_pos_left _ a
          have h12 : facL E 2 ≤ facL E 1 := by rw [e1]; exact Nat.le_mul_of_pos_left _ b
          match j, hlt with
          | 0, _ => exact Nat.le_refl _
          | 1, _ => exact h01
          | 2, _ => exact Nat.le_trans h12 h01
        have h2 : facL E 0 ≤ S := by rw [HP.out]; exact Nat.le_mul_of_pos_left _ (plen_pos (rdo_pos E E))
        omega
      generalize hW : wrs E 0 (j : Int) = W at hwl HST HOJ
      have HW : Hid (wrs E 0 (j : Int) = W) := hW
      clear hW
      go_wp2_with fail
      refine (writesP_any E hE j v _ (HH.out.keep hbr)).mono ?_
      rw [HW.out]
      rintro e w6 ⟨u2, rfl, hu2, hb6⟩
      obtain ⟨ao2, b2, off2, cap2', hsl2, hb2⟩ := hu2
      have HLL6 : Hid (LF w5.heap.size w6 (.slice aoV j capV) ((List.range j).map (ordJ E n)) vs) := HLL.out.keep hb6
      have HCH6 : Hid (Chs w6 B n (facL E j)) := HCH.out.below hb6
      have HO6 : Hid (Only B w5 w6) := HO.out.trans (Only.of_below hb6)
      have hs6 := hb6.size
      have HSL : Hid (SlAt w6 1 IntC u2 W ao2 b2 off2 cap2') := hsl2
      clear hsl2 hb6 HLL HCH HO
      go_wp2_with fail
      refine (chooseOrder_any W (by omega) u2 _ ao2 b2 off2 cap2' HSL.out B n (facL E j) (facL E (j + 1)) (by omega) (fun hne => by
        obtain ⟨x, hx⟩ := get_of_lt (l := W) (k := 0) (by cases W with | nil => exact absurd rfl hne | cons a l => simp)
        exact World.block_lt_of_cell? _ _ (HSL.out.hc 0 x hx)) HCH6.out HST.out (facL_pos E (j + 1)) hle (by omega)).mono ?_
      rw [← HOJ.out]
      rintro e w7 ⟨u3, rfl, hu3, hC7, ho7⟩
      obtain ⟨ao3, cap3, hf3, _⟩ := own_form hu3
      have HLL7 : Hid (LF w5.heap.size w7 (.slice aoV j capV) ((List.range j).map (ordJ E n)) vs) := HLL6.out.only ho7 (by omega)
      have HCH7 : Hid (Chs w7 B n (facL E (j + 1))) := hC7
      have HO7 : Hid (Only B w5 w7) := HO6.out.trans ho7
      have hs7 := ho7.size
      subst hf3
      have HU3 : Hid (IntF w6.heap.size w7 (.slice ao3 (ordJ E n j).length cap3) (ordJ E n j) ∧ ∀ (k : Nat) (z : Value) (b : Nat), vs[k]? = some z → z.ownBlock = some b → b < w6.heap.size) := ⟨hu3, fun k z b hz hb => by obtain ⟨x, _, hx⟩ := HLL6.out.row hz; exact (World.ownsRow.lt hx b hb).2⟩
      have hs56 := HO6.out.size
      have HOW : Hid (w7.ownsRow w5.heap.size 26 1 (.slice aoV j capV) j vs) := by have := HLL7.out.own; unfold Hid; simpa using this
      clear hu3 hC7 ho7 HLL6 HCH6 HO6 HSL
      go_wp2_with (at_builtin; refine append_new _ rfl (.tmp 41) (.tmp 43) 27 rfl w5.heap.size 26 i0 (.slice none 0 0) 1 24 Tryz.underlying27 HI.out.1 HI.out.2.1 HI.out.2.2.1 HI.out.2.2.2 rfl (by decide) (.slice aoV j capV) j vs rfl (HOW.out.alloc _) (some ⟨w7.heap.size, 0, none⟩) 1 1 [.slice ao3 (ordJ E n j).length cap3] rfl (fun h => by cases h) rfl (fun ad had => by cases had; exact new_one rfl) (by simp [Value.oneCell']) (by unfold maxLen; omega) (by omega) (by simp; omega) ?_)
      intro V8 w8 hown8 hgrow8 hap8
      obtain ⟨ao8, cap8, hf8, _⟩ := own_form hown8
      have HLL8 : Hid (LF w5.heap.size w8 V8 ((List.range (j + 1)).map (ordJ E n)) (vs ++ [.slice ao3 (ordJ E n j).length cap3])) := by
        unfold Hid
        rw [List.range_succ, List.map_append]
        exact HLL7.out.snoc HU3.out.1 hs56 HU3.out.2 (by simpa using hown8) hgrow8
      have HO8 : Hid (Only B w5 w8) := Only.grown (n := w5.heap.size) hgrow8 (fun kk e => (HOW.out.lt kk e).1) (HO7.out.trans (Only.of_below (below_alloc _ _))) (Nat.le_refl _)
      have HC8 : Hid (Chs w8 B n (facL E (j + 1))) := (HCH7.out.below (below_alloc _ _)).keep (hgrow8.block B (by have := HCH7.out.lt; simp; omega) (fun e => by have := (HOW.out.lt B e.symm).1; omega))
      subst hf8
      clear hown8 hgrow8 hap8 HLL7 HU3 HOW HO7 HCH7
      go_wp2_with fail
      go_roundw
      case measure => simp [intOf]; omega
      case rel => exact ⟨j + 1, ao8, cap8, _, by omega, by go_num, rfl, HLL8.out, HC8.out, HO8.out⟩
    · have h3 : j = 3 := by omega
      subst h3
      replace d0 := HO.out.cell d0 (by omega)
      replace d1 := HO.out.cell d1 (by omega)
      have hfz : ∀ o, wr.frozen? ⟨w.heap.size, o, none⟩ = w5.frozen? ⟨w.heap.size, o, none⟩ := fun o => World.frozen?_of_block (w := w5) (HO.out.block w.heap.size (by have := hb5.size; omega) (by omega))
      replace f0 := (hfz 0).trans f0
      replace f1 := (hfz 1).trans f1
      have hbr : Below w.heap.size w wr := hb5.trans (HO.out.below (by omega) hb5.size)
      have HFR : Hid (IntF w.heap.size wr (.slice aof (chF n (rdo E E) S).length capf) (chF n (rdo E E) S)) := own_only HF.out HO.out (fun g hg => by have := HFB.out g hg; omega)
      clear hfz HF HO HCH
      go_wp2_with fail
      have hset : Only w.heap.size wr ((wr.setCell ⟨w.heap.size, 0, none⟩ (.slice aof (chF n (rdo E E) S).length capf)).setCell ⟨w.heap.size, 1, none⟩ (.slice aoV 3 capV)) := (Only.setCellN _ _ _ _).trans (Only.setCellN _ _ _ _)
      refine bodyPost_ret (v := .tuple #[.agg #[.slice aof (chF n (rdo E E) S).length capf, .slice aoV 3 capV], .int .i64 0]) (by simp [results, Tryz.results119, go_sem, *]) rfl
        ⟨_, _, rfl, ⟨?_, ?_⟩, (hbr.setCell (Nat.le_refl _) _).setCell (Nat.le_refl _) _⟩
      · rw [HX.out]
        exact own_only HFR.out hset (fun g hg => by have := HFB.out g hg; omega)
      · rw [exN_order]
        have hLF := HLL.out.only hset (by have := hb5.size; omega)
        refine ⟨vs, ⟨own_base hLF.own hb5.size, fun k x hx => ?_, hLF.apart⟩, fun k u b hu hb e => ?_⟩
        · obtain ⟨u, h1, h2⟩ := hLF.rows k x hx
          exact ⟨u, h1, own_base h2 hb5.size⟩
        · obtain ⟨x, _, h2⟩ := hLF.row hu
          have q1 := (World.ownsRow.lt h2 b e).1
          have q2 := (HFB.out b hb).2
          omega

end Go.Proofs.YtomijmikkbhgmaaGreat
