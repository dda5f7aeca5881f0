import Derived.Test.YtomijmikkbhgmabGreatT37
import Derived.Test.YtomijmikkbhgmabGreatT42
import Derived.Test.YtomijmikkbhgmabGreatT3
import Derived.Laws.OwnMore
import Derived.OneCell
namespace Go.Proofs.YtomijmikkbhgmabGreat
open Go.RowKit

def addK : List (List Int × Nat) → List Int → List (List Int × Nat)
  | [], s => [(s, 1)]
  | p :: K, s => if p.1 == s then (p.1, p.2 + 1) :: K else p :: addK K s

/-- Is a state among those counted? -/
def hasK (K : List (List Int × Nat)) (s : List Int) : Bool := K.any fun p => p.1 == s

theorem hasK_iff {K : List (List Int × Nat)} {s : List Int} : hasK K s = true ↔ ∃ p ∈ K, p.1 = s := by
  unfold hasK
  rw [List.any_eq_true]
  simp

theorem addK_len (K : List (List Int × Nat)) (s : List Int) : (addK K s).length = K.length + if hasK K s then 0 else 1 := by
  induction K with
  | nil => simp [addK, hasK]
  | cons p K ih =>
    rw [addK]
    cases h : p.1 == s
    · rw [if_neg (by simp)]
      simp only [List.length_cons, ih]
      unfold hasK
      rw [List.any_cons, h, Bool.false_or]
      omega
    · rw [if_pos rfl]
      unfold hasK
      rw [List.any_cons, h, Bool.true_or]
      simp

theorem addK_has (K : List (List Int × Nat)) (s t : List Int) : hasK (addK K s) t = (hasK K t || s == t) := by
  induction K with
  | nil => simp [addK, hasK]
  | cons p K ih =>
    rw [addK]
    cases h : p.1 == s
    · rw [if_neg (by simp)]
      unfold hasK at ih ⊢
      rw [List.any_cons, List.any_cons, ih, Bool.or_assoc]
    · rw [if_pos rfl]
      have h1 : p.1 = s := by simpa using h
      unfold hasK
      rw [List.any_cons, List.any_cons, h1]
      cases s == t <;> simp

/-- Every count is that of its state. -/
def CntK (K : List (List Int × Nat)) (L : List (List Int)) : Prop := ∀ p ∈ K, p.2 = cnSt L p.1

theorem cnSt_cons (a : List Int) (L : List (List Int)) (t : List Int) : cnSt (a :: L) t = (if a == t then 1 else 0) + cnSt L t := by rw [cnSt]

theorem cnSt_app (L M : List (List Int)) (t : List Int) : cnSt (L ++ M) t = cnSt L t + cnSt M t := by
  induction L with
  | nil => simp [cnSt]
  | cons a L ih => rw [List.cons_append, cnSt_cons, cnSt_cons, ih]; omega

/-- States each once, and each with its count. -/
structure Sums (K : List (List Int × Nat)) (L : List (List Int)) : Prop where
  dis : K.Pairwise fun p q => p.1 ≠ q.1
  cnt : ∀ p ∈ K, p.2 = cnSt L p.1
  has : ∀ t, hasK K t = true ↔ t ∈ L

theorem addK_mem {K : List (List Int × Nat)} {s : List Int} {q : List Int × Nat} (h : q ∈ addK K s) : (q ∈ K ∧ q.1 ≠ s) ∨ (q.1 = s ∧ ((∃ p ∈ K, p.1 = s ∧ q.2 = p.2 + 1) ∨ ((∀ p ∈ K, p.1 ≠ s) ∧ q.2 = 1))) ∨ (q ∈ K ∧ ∃ a b, K = a ++ b ∧ q ∈ b ∧ ∃ p ∈ a, p.1 = s) := by
  induction K with
  | nil =>
    rw [addK] at h
    simp at h
    subst h
    exact .inr (.inl ⟨rfl, .inr ⟨fun p hp => (by cases hp), rfl⟩⟩)
  | cons p K ih =>
    rw [addK] at h
    cases hp : p.1 == s
    · rw [hp, if_neg (by simp)] at h
      have hps : p.1 ≠ s := by simpa using hp
      rcases List.mem_cons.1 h with rfl | h
      · exact .inl ⟨List.mem_cons_self, hps⟩
      · rcases ih h with ⟨h1, h2⟩ | ⟨h1, ⟨p', h2, h3⟩ | ⟨h2, h3⟩⟩ | ⟨h1, a, b, rfl, h3, p', h4, h5⟩
        · exact .inl ⟨List.mem_cons_of_mem _ h1, h2⟩
        · exact .inr (.inl ⟨h1, .inl ⟨p', List.mem_cons_of_mem _ h2, h3⟩⟩)
        · refine .inr (.inl ⟨h1, .inr ⟨fun x hx => ?_, h3⟩⟩)
          rcases List.mem_cons.1 hx with rfl | hx
          · exact hps
          · exact h2 x hx
        · exact .inr (.inr ⟨List.mem_cons_of_mem _ h1, p :: a, b, rfl, h3, p', List.mem_cons_of_mem _ h4, h5⟩)
    · rw [hp, if_pos rfl] at h
      have hps : p.1 = s := by simpa using hp
      rcases List.mem_cons.1 h with rfl | h
      · exact .inr (.inl ⟨hps, .inl ⟨p, List.mem_cons_self, hps, rfl⟩⟩)
      · exact .inr (.inr ⟨List.mem_cons_of_mem _ h, [p], K, rfl, h, p, List.mem_cons_self, hps⟩)

theorem addK_dis {K : List (List Int × Nat)} (h : K.Pairwise fun p q => p.1 ≠ q.1) (s : List Int) : (addK K s).Pairwise fun p q => p.1 ≠ q.1 := by
  induction K with
  | nil => simp [addK]
  | cons p K ih =>
    rw [List.pairwise_cons] at h
    rw [addK]
    cases hp : p.1 == s
    · rw [if_neg (by simp), List.pairwise_cons]
      refine ⟨fun q hq => ?_, ih h.2⟩
      have hps : p.1 ≠ s := by simpa using hp
      rcases addK_mem hq with ⟨h1, _⟩ | ⟨h1, _⟩ | ⟨h1, _⟩
      · exact h.1 q h1
      · rw [h1]; exact hps
      · exact h.1 q h1
    · rw [if_pos rfl, List.pairwise_cons]
      exact ⟨fun q hq => h.1 q hq, h.2⟩

theorem Sums.nil : Sums [] [] := ⟨List.Pairwise.nil, fun p hp => (by cases hp), fun t => by simp [hasK]⟩

theorem dis_split {a b : List (List Int × Nat)} (h : (a ++ b).Pairwise fun p q => p.1 ≠ q.1) {p q : List Int × Nat} (hp : p ∈ a) (hq : q ∈ b) : p.1 ≠ q.1 := (List.pairwise_append.1 h).2.2 p hp q hq

theorem cnSt_zero {L : List (List Int)} {t : List Int} (h : t ∉ L) : cnSt L t = 0 := by
  rcases Nat.eq_zero_or_pos (cnSt L t) with h0 | h0
  · exact h0
  · exact absurd (cnSt_pos.1 h0) h

theorem Sums.add {K : List (List Int × Nat)} {L : List (List Int)} (h : Sums K L) (s : List Int) : Sums (addK K s) (L ++ [s]) := by
  refine ⟨addK_dis h.dis s, fun q hq => ?_, fun t => ?_⟩
  · rw [cnSt_app, cnSt_cons, show cnSt [] q.1 = 0 from rfl, Nat.add_zero]
    rcases addK_mem hq with ⟨h1, h2⟩ | ⟨h1, ⟨p, h2, h3, h4⟩ | ⟨h2, h3⟩⟩ | ⟨h1, a, b, rfl, h3, p, h4, h5⟩
    · rw [if_neg (by simpa using fun e : s = q.1 => h2 e.symm), Nat.add_zero]
      exact h.cnt q h1
    · rw [h1, if_pos (by simp), h4, h.cnt p h2, h3]
    · have : s ∉ L := fun hm => by
        obtain ⟨p, hp, e⟩ := hasK_iff.1 ((h.has s).2 hm)
        exact h2 p hp e
      rw [h1, if_pos (by simp), h3, cnSt_zero this]
    · have hne := dis_split h.dis h4 h3
      rw [if_neg (by rw [← h5]; simpa using hne), Nat.add_zero]
      exact h.cnt q h1
  · rw [addK_has, Bool.or_eq_true, h.has t, List.mem_append, List.mem_singleton, beq_iff_eq]
    exact or_congr Iff.rfl eq_comm

/-- Two such countings are as long as each other. -/
theorem Sums.len {K K' : List (List Int × Nat)} {L : List (List Int)} (h : Sums K L) (hs : K'.Pairwise fun p q => p.1 ≠ q.1) (hh : ∀ t, hasK K' t = true ↔ t ∈ L) : K.length = K'.length := by
  have key : ∀ (A B : List (List Int)), A.Pairwise (· ≠ ·) → B.Pairwise (· ≠ ·) → (∀ t, t ∈ A ↔ t ∈ B) → A.length = B.length := by
    intro A B hA hB hAB
    exact ((List.perm_ext_iff_of_nodup hA hB).2 hAB).length_eq
  have := key (K.map (·.1)) (K'.map (·.1)) (List.pairwise_map.2 h.dis) (List.pairwise_map.2 hs) (fun t => by
    have h1 := h.has t
    have h2 := hh t
    rw [hasK_iff] at h1 h2
    simp only [List.mem_map]
    exact h1.trans h2.symm)
  simpa using this

theorem srt_dis {K : List (List Int × Nat)} (h : SrtK K) : K.Pairwise fun p q => p.1 ≠ q.1 := by
  rw [List.pairwise_iff_getElem]
  intro i j hi hj hij e
  have := srt_get h hij (List.getElem?_eq_getElem hi) (List.getElem?_eq_getElem hj)
  rw [e, ltL_irr] at this
  cases this

theorem sums_out {n : Nat} {K : List (List Int × Nat)} {L : List (List Int)} (hL : ∀ s ∈ L, s.length = n) (h : Sums K L) : K.length = (outK L).length ∧ ∀ p ∈ K, cnOu (outK L) p.1 = p.2 := by
  obtain ⟨s1, _, s3, s4⟩ := outK_spec hL
  refine ⟨h.len (srt_dis s1) fun t => ?_, fun p hp => by rw [s4, h.cnt p hp]⟩
  rw [hasK_iff, ← cnSt_pos, ← s4]
  constructor
  · rintro ⟨p, hp, rfl⟩
    rw [cnOu_at s1 hp]
    exact s3 p hp
  · intro h0
    exact cnOu_pos h0

end Go.Proofs.YtomijmikkbhgmabGreat

namespace Go.Proofs.YtomijmikkbhgmabGreat
open Go.RowKit

theorem addK_no {K : List (List Int × Nat)} {k : Nat} {p : List Int × Nat} {s : List Int} (hp : K[k]? = some p) (h : (p.1 == s) = false) (hi : addK K s = K.take k ++ addK (K.drop k) s) : addK K s = K.take (k + 1) ++ addK (K.drop (k + 1)) s := by
  rw [hi, drop_cons hp, addK, if_neg (by simp [h]), List.take_add_one, hp]
  simp
theorem addK_yes {K : List (List Int × Nat)} {k : Nat} {p : List Int × Nat} {s : List Int} (hp : K[k]? = some p) (h : (p.1 == s) = true) (hi : addK K s = K.take k ++ addK (K.drop k) s) : addK K s = K.set k (p.1, p.2 + 1) := by
  have hk := (List.getElem?_eq_some_iff.1 hp).1
  rw [hi, drop_cons hp, addK, if_pos h, List.set_eq_take_append_cons_drop, if_pos hk]

theorem set_fst {K : List (List Int × Nat)} {k : Nat} {p : List Int × Nat} (hp : K[k]? = some p) (n : Nat) : (K.set k (p.1, n)).map (·.1) = K.map (·.1) := by
  rw [List.map_set]
  apply List.ext_getElem?
  intro j
  rw [List.getElem?_set]
  have hk := (List.getElem?_eq_some_iff.1 hp).1
  by_cases h : k = j
  · subst h
    have e := (List.getElem?_eq_some_iff.1 hp).2
    simp [hk, e]
  · simp [h]
theorem own_form1 {w : World} {base : Nat} {e : TypeId} {size : Nat} {v : Value} {n : Nat} {xs : List Value} (h : w.ownsRow base e size v n xs) : ∃ ao cap, v = .slice ao n cap := by
  rcases h.2 with ⟨rfl, rfl⟩ | ⟨g, cap, cur, hv, _⟩
  · exact ⟨none, 0, rfl⟩
  · exact ⟨_, cap, hv⟩

theorem own_some1 {w : World} {base : Nat} {e : TypeId} {size : Nat} {v : Value} {n : Nat} {xs : List Value} (h : w.ownsRow base e size v n xs) (hn : 0 < n) : ∃ g cap, v = .slice (some ⟨g, 0, none⟩) n cap := by
  rcases h.2 with ⟨rfl, rfl⟩ | ⟨g, cap, cur, hv, _⟩
  · omega
  · exact ⟨_, cap, hv⟩

/-- Counted so far, in a block R of its own: how many good, how many bad, the first that decides, the states, how often. -/
structure SumAt (base : Nat) (w : World) (R g b : Nat) (f : Int) (V O : Value) (S : List (List Int)) (C : List Nat) (vs : List Value) : Prop where
  rb : w.heap[R]? = some (.cells #[.int .i64 g, .int .i64 b, .int .i64 f, V, O] 39 (0, 0))
  hR : base ≤ R
  hB : base ≤ w.heap.size
  sv : w.ownsRow base 37 1 V S.length vs
  so : w.ownsRow base 3 1 O C.length (C.map fun n : Nat => Value.int .i64 (n : Int))
  rows : ∀ (j : Nat) (s : List Int), S[j]? = some s → ∃ u, vs[j]? = some u ∧ IntAt w u s ∧ ∀ k, u.ownBlock = some k → k < w.heap.size ∧ k ≠ R ∧ V.ownBlock ≠ some k ∧ O.ownBlock ≠ some k
  nV : V.ownBlock ≠ some R
  nO : O.ownBlock ≠ some R
  nVO : ∀ k, V.ownBlock = some k → O.ownBlock ≠ some k

/-- Nothing has turned but those three blocks. -/
structure Chg (base R : Nat) (V O : Value) (w w' : World) : Prop where
  low : Below base w w'
  block : ∀ k, k < w.heap.size → k ≠ R → V.ownBlock ≠ some k → O.ownBlock ≠ some k → w'.heap[k]? = w.heap[k]?

theorem Chg.trans {base R : Nat} {V O V' O' : Value} {w w1 w2 : World} (h : Chg base R V O w w1) (k : Chg base R V' O' w1 w2) (hV : ∀ g, V'.ownBlock = some g → V.ownBlock = some g ∨ w.heap.size ≤ g) (hO : ∀ g, O'.ownBlock = some g → O.ownBlock = some g ∨ w.heap.size ≤ g) : Chg base R V O w w2 := by
  refine ⟨h.low.trans k.low, fun i hi h1 h2 h3 => ?_⟩
  have hs := h.low.size
  rw [k.block i (by omega) h1 (fun e => ?_) (fun e => ?_), h.block i hi h1 h2 h3]
  · rcases hV i e with e' | e'
    · exact h2 e'
    · omega
  · rcases hO i e with e' | e'
    · exact h3 e'
    · omega

theorem Chg.of_below {base R : Nat} {V O : Value} {w w' : World} (hB : base ≤ w.heap.size) (hb : Below w.heap.size w w') : Chg base R V O w w' := ⟨hb.mono hB, fun k hk _ _ _ => hb.block k hk⟩

theorem SumAt.keep {base : Nat} {w w' : World} {R g b : Nat} {f : Int} {V O : Value} {S : List (List Int)} {C : List Nat} {vs : List Value} (h : SumAt base w R g b f V O S C vs) (hb : Below w.heap.size w w') : SumAt base w' R g b f V O S C vs := by
  have hlt := lt_of_block h.rb
  refine ⟨(hb.block R hlt).trans h.rb, h.hR, Nat.le_trans h.hB hb.size, own_keep h.sv hb, own_keep h.so hb, fun j s hs => ?_, h.nV, h.nO, h.nVO⟩
  obtain ⟨u, h1, h2, h3⟩ := h.rows j s hs
  exact ⟨u, h1, h2.keep hb, fun k hk => ⟨Nat.lt_of_lt_of_le (h3 k hk).1 hb.size, (h3 k hk).2⟩⟩

theorem SumAt.put {base : Nat} {w : World} {R g b : Nat} {f : Int} {V O : Value} {S : List (List Int)} {C : List Nat} {vs : List Value} (h : SumAt base w R g b f V O S C vs) (j : Nat) (u : Value) {g' b' : Nat} {f' : Int} (e : (#[.int .i64 g, .int .i64 b, .int .i64 f, V, O] : Array Value).setIfInBounds j u = #[.int .i64 g', .int .i64 b', .int .i64 f', V, O]) : SumAt base (w.setCell ⟨R, j, none⟩ u) R g' b' f' V O S C vs ∧ Chg base R V O w (w.setCell ⟨R, j, none⟩ u) := by
  have hkeep : ∀ k, k ≠ R → (w.setCell ⟨R, j, none⟩ u).heap[k]? = w.heap[k]? := fun k hk => heap_setCell_other w ⟨R, j, none⟩ k u hk
  refine ⟨⟨?_, h.hR, by simpa using h.hB, ownsRow_setCell_other h.sv h.nV _, ownsRow_setCell_other h.so h.nO _, fun i s hs => ?_, h.nV, h.nO, h.nVO⟩, ⟨(Below.refl _ _).setCell h.hR _, fun k _ hk _ _ => hkeep k hk⟩⟩
  · rw [heap_setCell_same w R j _ _ u h.rb, e]
  · obtain ⟨z, h1, h2, h3⟩ := h.rows i s hs
    exact ⟨z, h1, h2.other fun k hk => hkeep k (h3 k hk).2.1, fun k hk => ⟨by simpa using (h3 k hk).1, (h3 k hk).2⟩⟩

theorem SumAt.bump {base : Nat} {w : World} {R g b : Nat} {f : Int} {V : Value} {gO cap m : Nat} {S : List (List Int)} {C : List Nat} {vs : List Value} (h : SumAt base w R g b f V (.slice (some ⟨gO, 0, none⟩) m cap) S C vs) (hm : m = C.length) (k : Nat) (n : Nat) :
    SumAt base (w.setCell ⟨gO, k, none⟩ (.int .i64 (n : Int))) R g b f V (.slice (some ⟨gO, 0, none⟩) m cap) S (C.set k n) vs ∧ Chg base R V (.slice (some ⟨gO, 0, none⟩) m cap) w (w.setCell ⟨gO, k, none⟩ (.int .i64 (n : Int))) := by
  subst hm
  have hO : (Value.slice (some ⟨gO, 0, none⟩) C.length cap).ownBlock = some gO := rfl
  have hkeep : ∀ i, i ≠ gO → (w.setCell ⟨gO, k, none⟩ (.int .i64 (n : Int))).heap[i]? = w.heap[i]? := fun i hi => heap_setCell_other w ⟨gO, k, none⟩ i _ hi
  have hRO : R ≠ gO := fun e => h.nO (by rw [hO, e])
  refine ⟨⟨(hkeep R hRO).trans h.rb, h.hR, by simpa using h.hB, ownsRow_setCell_other h.sv (fun e => h.nVO _ e hO) _, ?_, fun i s hs => ?_, h.nV, h.nO, h.nVO⟩, ⟨(Below.refl _ _).setCell (h.so.lt gO hO).1 _, fun i _ _ _ hi => hkeep i (fun e => hi (by rw [hO, e]))⟩⟩
  · have := (h.so.stored k (.int .i64 (n : Int))).1
    rw [List.length_set, List.map_set]
    exact this
  · obtain ⟨z, h1, h2, h3⟩ := h.rows i s hs
    exact ⟨z, h1, h2.other fun j hj => hkeep j (fun e => (h3 j hj).2.2.2 (by rw [hO, e])), fun j hj => ⟨by simpa using (h3 j hj).1, (h3 j hj).2⟩⟩

theorem SumAt.appV {base : Nat} {w w2 : World} {R g b : Nat} {f : Int} {V V' O : Value} {S : List (List Int)} {C : List Nat} {vs : List Value} (h : SumAt base w R g b f V O S C vs) {u : Value} {s : List Int} {o : Obj} (hu : IntAt w u s) (hub : ∀ k, u.ownBlock = some k → k < w.heap.size ∧ k ≠ R ∧ V.ownBlock ≠ some k ∧ O.ownBlock ≠ some k)
    (hown : w2.ownsRow base 37 1 V' (S.length + 1) (vs ++ [u])) (hg : (w.alloc o).grownBy w2 V.ownBlock) (hap : ∀ k, V'.ownBlock = some k → V.ownBlock = some k ∨ w.heap.size + 1 ≤ k) :
    SumAt base (w2.setCell ⟨R, 3, none⟩ V') R g b f V' O (S ++ [s]) C (vs ++ [u]) ∧ Chg base R V O w (w2.setCell ⟨R, 3, none⟩ V') ∧ w2.heap[R]? = some (.cells #[.int .i64 g, .int .i64 b, .int .i64 f, V, O] 39 (0, 0)) := by
  have hsz : w.heap.size + 1 ≤ w2.heap.size := by have := hg.size; simpa using this
  have hlt := lt_of_block h.rb
  have key : ∀ k : Nat, k < w.heap.size → V.ownBlock ≠ some k → w2.heap[k]? = w.heap[k]? := by
    intro k hk hne
    rw [hg.block k (by simp; omega) (fun e => hne e.symm), Below.heap_alloc _ _ _ hk]
  have rb2 := (key R hlt h.nV).trans h.rb
  have hset : ∀ k, k ≠ R → (w2.setCell ⟨R, 3, none⟩ V').heap[k]? = w2.heap[k]? := fun k hk => heap_setCell_other w2 ⟨R, 3, none⟩ k _ hk
  have nV' : V'.ownBlock ≠ some R := fun e => by
    rcases hap R e with e' | e'
    · exact h.nV e'
    · omega
  have hlow : Below base w w2 := Below.grown ((Below.refl base w).alloc h.hB _) hg (by simp; have := h.hB; omega) (fun k e => (h.sv.lt k e).1)
  have hV'k : ∀ k, k < w.heap.size → V.ownBlock ≠ some k → V'.ownBlock ≠ some k := fun k hk hne e => by
    rcases hap k e with e' | e'
    · exact hne e'
    · omega
  refine ⟨⟨?_, h.hR, by simpa using Nat.le_trans h.hB (by omega), ?_, ?_, fun j t ht => ?_, nV', h.nO, fun k e e2 => ?_⟩, ⟨hlow.setCell h.hR _, fun k hk h1 h2 _ => (hset k h1).trans (key k hk h2)⟩, rb2⟩
  · rw [heap_setCell_same w2 R 3 _ _ _ rb2]; rfl
  · have := ownsRow_setCell_other hown (a := ⟨R, 3, none⟩) nV' V'
    simpa using this
  · refine own_other h.so fun k hk => ?_
    rw [hset k (fun e => h.nO (by rw [hk, e])), key k (h.so.lt k hk).2 (fun e => h.nVO k e hk)]
  · have fin : ∀ z : Value, IntAt w z t → (∀ k, z.ownBlock = some k → k < w.heap.size ∧ k ≠ R ∧ V.ownBlock ≠ some k ∧ O.ownBlock ≠ some k) → IntAt (w2.setCell ⟨R, 3, none⟩ V') z t ∧ ∀ k, z.ownBlock = some k → k < (w2.setCell ⟨R, 3, none⟩ V').heap.size ∧ k ≠ R ∧ V'.ownBlock ≠ some k ∧ O.ownBlock ≠ some k := fun z hz hk =>
      ⟨hz.other fun k e => (hset k (hk k e).2.1).trans (key k (hk k e).1 (hk k e).2.2.1), fun k e => ⟨by have := (hk k e).1; simp; omega, (hk k e).2.1, hV'k k (hk k e).1 (hk k e).2.2.1, (hk k e).2.2.2⟩⟩
    have hlen : vs.length = S.length := by simpa using h.sv.1
    by_cases hj : j < S.length
    · rw [List.getElem?_append_left hj] at ht
      obtain ⟨z, h1, h2, h3⟩ := h.rows j t ht
      exact ⟨z, by rw [List.getElem?_append_left (by rw [hlen]; exact hj)]; exact h1, fin z h2 h3⟩
    · have hjL : j = S.length := by
        have := (List.getElem?_eq_some_iff.1 ht).1
        simp at this; omega
      subst hjL
      rw [List.getElem?_append_right (Nat.le_refl _), Nat.sub_self] at ht
      simp at ht
      subst ht
      exact ⟨u, by rw [List.getElem?_append_right (by rw [hlen]; exact Nat.le_refl _), hlen]; simp, fin u hu hub⟩
  · rcases hap k e with e' | e'
    · exact h.nVO k e' e2
    · have := (h.so.lt k e2).2; omega

theorem SumAt.appO {base : Nat} {w w2 : World} {R g b : Nat} {f : Int} {V O O' : Value} {S : List (List Int)} {C : List Nat} {vs : List Value} (h : SumAt base w R g b f V O S C vs) {n : Nat} {o : Obj}
    (hown : w2.ownsRow base 3 1 O' (C.length + 1) ((C.map fun n : Nat => Value.int .i64 (n : Int)) ++ [.int .i64 (n : Int)])) (hg : (w.alloc o).grownBy w2 O.ownBlock) (hap : ∀ k, O'.ownBlock = some k → O.ownBlock = some k ∨ w.heap.size + 1 ≤ k) :
    SumAt base (w2.setCell ⟨R, 4, none⟩ O') R g b f V O' S (C ++ [n]) vs ∧ Chg base R V O w (w2.setCell ⟨R, 4, none⟩ O') ∧ w2.heap[R]? = some (.cells #[.int .i64 g, .int .i64 b, .int .i64 f, V, O] 39 (0, 0)) := by
  have hsz : w.heap.size + 1 ≤ w2.heap.size := by have := hg.size; simpa using this
  have hlt := lt_of_block h.rb
  have key : ∀ k : Nat, k < w.heap.size → O.ownBlock ≠ some k → w2.heap[k]? = w.heap[k]? := by
    intro k hk hne
    rw [hg.block k (by simp; omega) (fun e => hne e.symm), Below.heap_alloc _ _ _ hk]
  have rb2 := (key R hlt h.nO).trans h.rb
  have hset : ∀ k, k ≠ R → (w2.setCell ⟨R, 4, none⟩ O').heap[k]? = w2.heap[k]? := fun k hk => heap_setCell_other w2 ⟨R, 4, none⟩ k _ hk
  have nO' : O'.ownBlock ≠ some R := fun e => by
    rcases hap R e with e' | e'
    · exact h.nO e'
    · omega
  have hlow : Below base w w2 := Below.grown ((Below.refl base w).alloc h.hB _) hg (by simp; have := h.hB; omega) (fun k e => (h.so.lt k e).1)
  have hO'k : ∀ k, k < w.heap.size → O.ownBlock ≠ some k → O'.ownBlock ≠ some k := fun k hk hne e => by
    rcases hap k e with e' | e'
    · exact hne e'
    · omega
  refine ⟨⟨?_, h.hR, by simpa using Nat.le_trans h.hB (by omega), ?_, ?_, fun j t ht => ?_, h.nV, nO', fun k e e2 => ?_⟩, ⟨hlow.setCell h.hR _, fun k hk h1 _ h2 => (hset k h1).trans (key k hk h2)⟩, rb2⟩
  · rw [heap_setCell_same w2 R 4 _ _ _ rb2]; rfl
  · refine own_other h.sv fun k hk => ?_
    rw [hset k (fun e => h.nV (by rw [hk, e])), key k (h.sv.lt k hk).2 (h.nVO k hk)]
  · have := ownsRow_setCell_other hown (a := ⟨R, 4, none⟩) nO' O'
    simpa using this
  · obtain ⟨z, h1, h2, h3⟩ := h.rows j t ht
    exact ⟨z, h1, h2.other fun k e => (hset k (h3 k e).2.1).trans (key k (h3 k e).1 (h3 k e).2.2.2), fun k e => ⟨by have := (h3 k e).1; simp; omega, (h3 k e).2.1, (h3 k e).2.2.1, hO'k k (h3 k e).1 (h3 k e).2.2.2⟩⟩
  · rcases hap k e2 with e' | e'
    · exact h.nVO k e e'
    · have := (h.sv.lt k e).2; omega

end Go.Proofs.YtomijmikkbhgmabGreat
