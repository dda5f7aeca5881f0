import Derived.Test.YtomijmikkbhgmaaGreatT1
import Derived.Deep.Light
import Derived.Test.YtomijmikkbhgmaaGreatRows
import Derived.ArgAppend
import Derived.Laws.AppendOwnNone
import Derived.Deep.QuietTactic
import Derived.BigQuiet
namespace Go.Proofs.YtomijmikkbhgmaaGreat

/-! each is an execution -/
/-- One number for each read, out of what it may read from. -/
def picks : List Int → List (List Int) → Prop
  | [], [] => True
  | a :: l, o :: os => a ∈ o ∧ picks l os
  | _, _ => False

theorem chF_picks (n : Nat) (os : List (List Int)) (h : ∀ o ∈ os, 1 ≤ o.length) (wt : Nat) : picks (chF n os wt) os := by
  induction os generalizing wt with
  | nil => exact True.intro
  | cons o os ih =>
    have h1 := h o (List.mem_cons_self ..)
    refine ⟨?_, ih (fun x hx => h x (List.mem_cons_of_mem _ hx)) _⟩
    have hlt : n / (wt / o.length) % o.length < o.length := Nat.mod_lt _ h1
    rw [List.getD, List.getElem?_eq_getElem hlt]
    exact List.getElem_mem hlt

theorem chO_perm (n m : Nat) (l : List Int) (h : l.length = m) (wt : Nat) : (chO n m l wt).Perm l := by
  induction m generalizing l wt with
  | zero => have : l = [] := List.eq_nil_of_length_eq_zero h
            subst this; exact List.Perm.refl _
  | succ m ih =>
    unfold chO
    have hlt : n / (wt / l.length) % l.length < l.length := Nat.mod_lt _ (by omega)
    generalize hd : n / (wt / l.length) % l.length = d at hlt
    rw [List.getD, List.getElem?_eq_getElem hlt]
    refine (List.Perm.cons _ (ih (l.eraseIdx d) (by rw [List.length_eraseIdx, if_pos hlt]; omega) _)).trans ?_
    have e : l = l.take d ++ l[d] :: l.drop (d + 1) := by rw [← List.drop_eq_getElem_cons hlt, List.take_append_drop]
    rw [List.eraseIdx_eq_take_drop_succ]
    have p := List.perm_middle (a := l[d]) (l₁ := l.take d) (l₂ := l.drop (d + 1))
    rw [← e] at p
    exact p.symm

/-- An execution of these events. -/
structure Drawn (E : List Evt) (x : Exe) : Prop where
  f : picks x.from' (rdo E E)
  o : ∃ a b c, x.order = [a, b, c] ∧ a.Perm (wrs E 0 0) ∧ b.Perm (wrs E 0 1) ∧ c.Perm (wrs E 0 2)

theorem exN_drawn (E : List Evt) (n : Nat) : Drawn E (exN E n) :=
  ⟨chF_picks _ _ (rdo_pos E E) _, _, _, _, rfl, chO_perm _ _ _ rfl _, chO_perm _ _ _ rfl _, chO_perm _ _ _ rfl _⟩

theorem Drawn.row {E : List Evt} {x : Exe} (h : Drawn E x) {j : Nat} {l : List Int} (hl : x.order[j]? = some l) : l.Perm (wrs E 0 (j : Int)) := by
  obtain ⟨a, b, c, ho, ha, hb, hc⟩ := h.o
  rw [ho] at hl
  match j, hl with
  | 0, hl => simp at hl; subst hl; exact ha
  | 1, hl => simp at hl; subst hl; exact hb
  | 2, hl => simp at hl; subst hl; exact hc
  | j + 3, hl => simp at hl

end Go.Proofs.YtomijmikkbhgmaaGreat

namespace Go.Proofs.YtomijmikkbhgmaaGreat
open Go.RowKit

theorem intAt_nil (w : World) (B : Nat) : IntNew B w (.slice none 0 0) [] := ⟨none, B, 0, 0, ⟨rfl, fun h => absurd rfl h, fun _ => ⟨rfl, rfl⟩, fun k x h => by simp at h⟩, Nat.le_refl _, Nat.le_refl _⟩

theorem intAt_one (w : World) (a : Int) (t : TypeId) : IntNew w.heap.size (w.alloc (.cells #[.int .i64 a] t)) (.slice (some ⟨w.heap.size, 0, none⟩) 1 1) [a] :=
  ⟨_, w.heap.size, 0, 1, ⟨rfl, fun _ => rfl, fun h => by simp at h, fun k x h => by
    match k, h with
    | 0, h => simp at h; subst h; simp [IntC]⟩, Nat.le_refl _, Nat.le_refl _⟩

theorem intAt_two (w : World) (a b : Int) (t : TypeId) : IntNew w.heap.size (w.alloc (.cells #[.int .i64 a, .int .i64 b] t)) (.slice (some ⟨w.heap.size, 0, none⟩) 2 2) [a, b] :=
  ⟨_, w.heap.size, 0, 2, ⟨rfl, fun _ => rfl, fun h => by simp at h, fun k x h => by
    match k, h with
    | 0, h => simp at h; subst h; simp [IntC]
    | 1, h => simp at h; subst h; simp [IntC]⟩, Nat.le_refl _, Nat.le_refl _⟩

theorem IntNew.of {B : Nat} {w : World} {v : Value} {l m : List Int} (h : IntNew B w v l) (e : m = l) : IntNew B w v m := by rw [e]; exact h

set_option maxHeartbeats 1000000 in
theorem kindsR_any (op : Int) (w : World) :
    Calls Tryz.prog 79 #[.int .i64 op] w fun e w' => ∃ v, e = .returned v ∧ IntNew w.heap.size w' v (kindsOf op) ∧ Below w.heap.size w w' := by
  go_enter Tryz.func79, Tryz.ntmps79
  go_wp2
  all_goals go_ret
  all_goals first
    | exact ⟨_, rfl, (intAt_one _ _ _).of (by simp [kindsOf, *]), below_alloc _ _⟩
    | exact ⟨_, rfl, (intAt_two _ _ _ _).of (by simp [kindsOf, *]), below_alloc _ _⟩
    | exact ⟨_, rfl, (intAt_nil _ _).of (by simp [kindsOf, *]), Below.refl _ _⟩

set_option maxHeartbeats 1000000 in
theorem kindsP_any (op : Int) (w : World) :
    Calls Tryz.prog 72 #[.int .i64 op] w fun e w' => ∃ v, e = .returned v ∧ IntNew w.heap.size w' v (kindsOf op) ∧ Below w.heap.size w w' := by
  go_enter Tryz.func72, Tryz.ntmps72
  go_wp2
  all_goals go_ret
  all_goals first
    | exact ⟨_, rfl, (intAt_one _ _ _).of (by simp [kindsOf, *]), below_alloc _ _⟩
    | exact ⟨_, rfl, (intAt_two _ _ _ _).of (by simp [kindsOf, *]), below_alloc _ _⟩
    | exact ⟨_, rfl, (intAt_nil _ _).of (by simp [kindsOf, *]), Below.refl _ _⟩

end Go.Proofs.YtomijmikkbhgmaaGreat

namespace Go.Proofs.YtomijmikkbhgmaaGreat
open Go.RowKit

theorem Tryz.info3 : (Tryz.prog.info? 3).map (fun i => (i.zero, i.size, i.bytes)) = some (some (.int .i64 0), 1, 8) := by kernel_rfl

theorem own_keep {w w' : World} {base : Nat} {e : TypeId} {size : Nat} {v : Value} {n : Nat} {xs : List Value} (h : w.ownsRow base e size v n xs) (hb : Below w.heap.size w w') : w'.ownsRow base e size v n xs := by
  refine ⟨h.1, ?_⟩
  rcases h.2 with h2 | ⟨g, cap, cur, hv, hg, hh, r⟩
  · exact Or.inl h2
  · exact Or.inr ⟨g, cap, cur, hv, hg, by rw [hb.block g (Array.getElem?_eq_some_iff.1 hh).1]; exact hh, r⟩

/-- An entry of lists of s entries each, laid one behind the other. -/
theorem flat_get {α β : Type} (f : α → List β) (s : Nat) (hf : ∀ x, (f x).length = s) (l : List α) (k j : Nat) (x : α) (hx : l[k]? = some x) (hj : j < s) : (l.flatMap f)[k * s + j]? = (f x)[j]? := by
  induction l generalizing k with
  | nil => simp at hx
  | cons a l ih =>
    cases k with
    | zero => simp at hx; subst hx; rw [List.flatMap_cons, List.getElem?_append_left (by rw [hf]; omega)]; simp
    | succ k =>
      rw [List.flatMap_cons, List.getElem?_append_right (by rw [hf, Nat.add_mul]; omega), hf]
      rw [show (k + 1) * s + j - s = k * s + j by rw [Nat.add_mul]; omega]
      exact ih k (by simpa using hx)

theorem flat_len {α β : Type} (f : α → List β) (s : Nat) (hf : ∀ x, (f x).length = s) (l : List α) : (l.flatMap f).length = l.length * s := by
  induction l with
  | nil => simp
  | cons a l ih => rw [List.flatMap_cons, List.length_append, ih, hf, List.length_cons, Nat.add_mul]; omega

/-- What is owned, read as a list. -/
theorem owns_read {α : Type} {C : World → Nat → Nat → α → Prop} (f : α → List Value) (s : Nat) (hf : ∀ x, (f x).length = s)
    {w : World} (hC : ∀ b off x, (∀ j u, (f x)[j]? = some u → w.cell? ⟨b, off + j, none⟩ = some u) → C w b off x)
    {base : Nat} {e : TypeId} {v : Value} {l : List α} (h : w.ownsRow base e s v l.length (l.flatMap f)) : ∃ ao b off cap, SlAt w s C v l ao b off cap ∧ base ≤ b ∧ l.length ≤ cap := by
  rcases h.2 with ⟨rfl, hn⟩ | ⟨g, cap, cur, rfl, hg, hh, hnc, _, _, htake⟩
  · have : l = [] := List.eq_nil_of_length_eq_zero hn
    subst this
    exact ⟨none, base, 0, 0, ⟨rfl, fun h => absurd rfl h, fun _ => ⟨rfl, rfl⟩, fun k x h => by simp at h⟩, Nat.le_refl _, Nat.le_refl _⟩
  · refine ⟨_, g, 0, cap, ⟨rfl, fun _ => rfl, fun h => by simp at h, fun k x hx => hC _ _ _ fun j u hu => ?_⟩, hg, hnc⟩
    have hj : j < s := by have := (List.getElem?_eq_some_iff.1 hu).1; rw [hf] at this; exact this
    have := h.cells (g := g) rfl (k * s + j) u (by rw [flat_get f s hf l k j x hx hj]; exact hu)
    rw [Addr.add_lit] at this
    rw [Nat.zero_add] at this ⊢
    exact this

theorem flat_one (l : List Int) : l.flatMap (fun x => [Value.int .i64 x]) = l.map (Value.int .i64) := by
  induction l with
  | nil => rfl
  | cons a l ih => rw [List.flatMap_cons, ih]; rfl

theorem owns_int {w : World} {base : Nat} {e : TypeId} {v : Value} {l : List Int} (h : w.ownsRow base e 1 v l.length (l.map (Value.int .i64))) : IntNew base w v l := by
  refine owns_read (C := IntC) (fun x => [Value.int .i64 x]) 1 (fun _ => rfl) (fun b off x hx => ?_) (by rw [flat_one]; exact h)
  exact hx 0 _ rfl

/-- A list of numbers, in a whole block of its own. -/
def IntF (B : Nat) (w : World) (v : Value) (l : List Int) : Prop := w.ownsRow B 3 1 v l.length (l.map (Value.int .i64))
theorem IntF.new {B : Nat} {w : World} {v : Value} {l : List Int} (h : IntF B w v l) : IntNew B w v l := owns_int h

theorem own_snoc {w : World} {base : Nat} {e : TypeId} {v : Value} {xs : List Int} {a : Int} (h : w.ownsRow base e 1 v (xs.length + 1) (xs.map (Value.int .i64) ++ [.int .i64 a])) :
    w.ownsRow base e 1 v (xs ++ [a]).length ((xs ++ [a]).map (Value.int .i64)) := by simpa using h

/-- The one new cell ahead of an append of one number. -/
theorem new_one {W : World} {v : Value} {t : TypeId} {n : Nat} (hn : n = W.heap.size) : ∀ j u, [v][j]? = some u → (W.alloc (.cells #[v] t)).cell? ((⟨n, 0, none⟩ : Addr).add j) = some u := by
  intro j u hj
  subst hn
  match j, hj with
  | 0, hj => simp at hj; subst hj; simp [Addr.add]

theorem own_base {w : World} {base base' : Nat} {e : TypeId} {size : Nat} {v : Value} {n : Nat} {xs : List Value} (h : w.ownsRow base e size v n xs) (hb : base' ≤ base) : w.ownsRow base' e size v n xs := by
  refine ⟨h.1, ?_⟩
  rcases h.2 with h2 | ⟨g, cap, cur, hv, hg, r⟩
  · exact Or.inl h2
  · exact Or.inr ⟨g, cap, cur, hv, by omega, r⟩

/-- append onto a row of the call's own, whatever is appended (nil, too); and the row behind it is the old one or a new one. -/
theorem run_append_new {P : Program} (w : World) (t ty : TypeId)
    (base : Nat) (e : TypeId) (i : TypeInfo) (z : Value) (size bytes : Nat) (ht : P.underlying t = some (.slice e)) (hi : P.info? e = some i) (hz : i.zero = some z)
    (hsize : i.size = size) (hby : i.bytes = bytes) (hzs : z.cells.size = size) (hsz : 0 < size)
    (v : Value) (n : Nat) (xs : List Value) (hown : w.ownsRow base e size v n xs)
    (ao : Option Addr) (m c : Nat) (news : List Value) (hnone : ao = none → m = 0 ∧ c = 0) (hl : news.length = m * size) (hnews : ∀ ad, ao = some ad → ∀ j u, news[j]? = some u → w.cell? (ad.add j) = some u) (h1 : ∀ u ∈ news, u.oneCell' = true)
    (h63 : n + m ≤ maxLen) (hbytes : (n + m) * bytes ≤ 140737488355328) (hbase : base ≤ w.heap.size) :
    ∃ v' w', (Builtin.append_ #[t, t] ty #[v, .slice ao m c]).run P w = .ok v' w' ∧ w'.ownsRow base e size v' (n + m) (xs ++ news) ∧ w.grownBy w' v.ownBlock ∧ (∀ g, v'.ownBlock = some g → v.ownBlock = some g ∨ w.heap.size ≤ g) := by
  cases ao with
  | none =>
    obtain ⟨rfl, rfl⟩ := hnone rfl
    have hn : news = [] := List.eq_nil_of_length_eq_zero (by simpa using hl)
    subst hn
    exact ⟨v, w, run_append_owned_none (P := P) (w := w) base t ty e i size ht hi v n xs hown, by simpa using hown, World.grownBy.refl _ _, fun g hg => .inl hg⟩
  | some ad =>
    rcases hown.2 with ⟨rfl, rfl⟩ | ⟨g, cap, cur, rfl, hbg, hg, hnc, hcm, hcs, htake⟩
    · have hx0 : xs = [] := List.eq_nil_of_length_eq_zero (by simpa using hown.1)
      subst hx0
      obtain ⟨v', w', hr, ho', hg', _⟩ := run_append_own (P := P) w w.heap.size t ty e i z size bytes ht hi hz hsize hby hzs hsz _ 0 [] (World.ownsRow_nil _ _ _ _) ad m c news hl (hnews ad rfl) h1 h63 hbytes (Nat.le_refl _)
      exact ⟨v', w', hr, own_base ho' hbase, hg', fun g hg => .inr (ho'.lt g hg).1⟩
    · by_cases hroom : n + m ≤ cap
      · obtain ⟨w', hr, ho', hg'⟩ := run_append_fits (P := P) w base t ty e i size ht hi hsize g n cap xs hown ad m c news hl (hnews ad rfl) h1 hroom
        exact ⟨_, w', hr, ho', hg', fun g' hg'' => .inl hg''⟩
      · obtain ⟨v', w', hr, ho', hg'⟩ := run_append_arg_grows (P := P) w t ty e i z size bytes ht hi hz hsize hby hzs hsz ⟨g, 0, none⟩ n cap xs hown.1 (hown.cells (g := g) rfl) ad m c news hl (hnews ad rfl) (by omega) h63 hbytes
        exact ⟨v', w', hr, own_base ho' hbase, ⟨hg'.os, hg'.tape, hg'.output, hg'.size, fun k hk _ => hg'.block k hk (by simp)⟩, fun g hg => .inr (ho'.lt g hg).1⟩

theorem append_new {P : Program} (w : World) {ops : Array Oper} {rest : List Oper} {o : Oper} {a : Act} {Q : Exit → Act → World → Prop} (hgd : o.guard = none) (s x : Operand) (t : TypeId)
    (ho : o.op = .call { callee := .builtin .append, args := #[s, x], argTypes := #[t, t] })
    (base : Nat) (e : TypeId) (i : TypeInfo) (z : Value) (size bytes : Nat) (ht : P.underlying t = some (.slice e)) (hi : P.info? e = some i) (hz : i.zero = some z)
    (hsize : i.size = size) (hby : i.bytes = bytes) (hzs : z.cells.size = size) (hsz : 0 < size)
    (v : Value) (n : Nat) (xs : List Value) (hs : a.eval s = v) (hown : w.ownsRow base e size v n xs)
    (ao : Option Addr) (m c : Nat) (news : List Value) (hx : a.eval x = .slice ao m c) (hnone : ao = none → m = 0 ∧ c = 0) (hl : news.length = m * size) (hnews : ∀ ad, ao = some ad → ∀ j u, news[j]? = some u → w.cell? (ad.add j) = some u) (h1 : ∀ u ∈ news, u.oneCell' = true)
    (h63 : n + m ≤ maxLen) (hbytes : (n + m) * bytes ≤ 140737488355328) (hbase : base ≤ w.heap.size)
    (h : ∀ v' w', w'.ownsRow base e size v' (n + m) (xs ++ news) → w.grownBy w' v.ownBlock → (∀ g, v'.ownBlock = some g → v.ownBlock = some g ∨ w.heap.size ≤ g) → wpList P ops Q rest (a.put o.dst v') w') : wpList P ops Q (o :: rest) a w := by
  refine wpList_plain hgd fun K hK => ?_
  obtain ⟨v', w', hr, h2, h3, h4⟩ := run_append_new (P := P) w t o.type base e i z size bytes ht hi hz hsize hby hzs hsz v n xs hown ao m c news hnone hl hnews h1 h63 hbytes hbase
  unfold Oper.wp
  simp [execOp, ho, resolve, invoke, builtin, hs, hx, hr, Result.andThen]
  exact hK _ _ (h v' w' h2 h3 h4)

/-- The same as one step of a region that draws its order. -/
theorem step_append_new {P : Program} {ops : Array Oper} {o : Oper} {a : Act} (w : World) {K : Act → World → Prop} {Q : Exit → Act → World → Prop} {E : Prop} (hgd : o.guard = none) (s x : Operand) (t : TypeId)
    (ho : o.op = .call { callee := .builtin .append, args := #[s, x], argTypes := #[t, t] })
    (base : Nat) (e : TypeId) (i : TypeInfo) (z : Value) (size bytes : Nat) (ht : P.underlying t = some (.slice e)) (hi : P.info? e = some i) (hz : i.zero = some z)
    (hsize : i.size = size) (hby : i.bytes = bytes) (hzs : z.cells.size = size) (hsz : 0 < size)
    (v : Value) (n : Nat) (xs : List Value) (hs : a.eval s = v) (hown : w.ownsRow base e size v n xs)
    (ao : Option Addr) (m c : Nat) (news : List Value) (hx : a.eval x = .slice ao m c) (hnone : ao = none → m = 0 ∧ c = 0) (hl : news.length = m * size) (hnews : ∀ ad, ao = some ad → ∀ j u, news[j]? = some u → w.cell? (ad.add j) = some u) (h1 : ∀ u ∈ news, u.oneCell' = true)
    (h63 : n + m ≤ maxLen) (hbytes : (n + m) * bytes ≤ 140737488355328) (hbase : base ≤ w.heap.size)
    (h : ∀ v' w', w'.ownsRow base e size v' (n + m) (xs ++ news) → w.grownBy w' v.ownBlock → (∀ g, v'.ownBlock = some g → v.ownBlock = some g ∨ w.heap.size ≤ g) → K (a.put o.dst v') w') :
    if Region.wanted o (yielded ops a.tmps) = true then Oper.wp P o a w K Q else E := by
  have hw : Region.wanted o (yielded ops a.tmps) = true := by simp [Region.wanted, hgd]
  rw [if_pos hw]
  obtain ⟨v', w', hr, h2, h3, h4⟩ := run_append_new (P := P) w t o.type base e i z size bytes ht hi hz hsize hby hzs hsz v n xs hown ao m c news hnone hl hnews h1 h63 hbytes hbase
  unfold Oper.wp
  simp [execOp, ho, resolve, invoke, builtin, hs, hx, hr, Result.andThen]
  exact h v' w' h2 h3 h4

/-- Since w0 nothing has turned but the row g0; and what is owned now is that row, or newer. -/
structure Aw (w0 wr : World) (g0 : Option Nat) (u : Value) : Prop where
  size : w0.heap.size ≤ wr.heap.size
  block : ∀ k, k < w0.heap.size → some k ≠ g0 → wr.heap[k]? = w0.heap[k]?
  own : ∀ g, u.ownBlock = some g → some g = g0 ∨ w0.heap.size ≤ g

theorem Aw.refl (w : World) (u : Value) : Aw w w u.ownBlock u := ⟨Nat.le_refl _, fun _ _ _ => rfl, fun _ h => .inl h.symm⟩
theorem Aw.below {w0 w1 w2 : World} {g0 : Option Nat} {u : Value} (h : Aw w0 w1 g0 u) (hb : Below w1.heap.size w1 w2) : Aw w0 w2 g0 u :=
  ⟨Nat.le_trans h.size hb.size, fun k hk hn => (hb.block k (Nat.lt_of_lt_of_le hk h.size)).trans (h.block k hk hn), h.own⟩
theorem Aw.grown {w0 w1 w2 : World} {g0 : Option Nat} {u u' : Value} (h : Aw w0 w1 g0 u) (hg : w1.grownBy w2 u.ownBlock) (hu : ∀ g, u'.ownBlock = some g → u.ownBlock = some g ∨ w1.heap.size ≤ g) : Aw w0 w2 g0 u' := by
  refine ⟨Nat.le_trans h.size hg.size, fun k hk hn => ?_, fun g hg' => ?_⟩
  · rw [hg.block k (Nat.lt_of_lt_of_le hk h.size) (fun e => ?_)]
    · exact h.block k hk hn
    · rcases h.own k e.symm with h' | h'
      · exact hn h'
      · omega
  · rcases hu g hg' with h' | h'
    · exact h.own g h'
    · exact .inr (Nat.le_trans h.size h')
theorem Aw.cell {w0 wr : World} {g0 : Option Nat} {u : Value} (h : Aw w0 wr g0 u) {b o : Nat} {v : Value} (hc : w0.cell? ⟨b, o, none⟩ = some v) (hn : some b ≠ g0) : wr.cell? ⟨b, o, none⟩ = some v :=
  (World.cell?_of_block (w := w0) (h.block b (World.block_lt_of_cell? w0 _ hc) hn)).trans hc

theorem own_one (w : World) (a : Int) (t : TypeId) : (w.alloc (.cells #[.int .i64 a] t)).ownsRow w.heap.size t 1 (.slice (some ⟨w.heap.size, 0, none⟩) 1 1) [a].length ([a].map (Value.int .i64)) :=
  ⟨rfl, .inr ⟨w.heap.size, 1, #[.int .i64 a], rfl, Nat.le_refl _, heap_alloc_new w _, Nat.le_refl _, by unfold maxLen; omega, rfl, rfl⟩⟩

end Go.Proofs.YtomijmikkbhgmaaGreat

namespace Go.Proofs.YtomijmikkbhgmaaGreat
open Go.RowKit

/-- Nothing has turned but block B, and what is new. -/
structure Only (B : Nat) (w w' : World) : Prop where
  os : w'.os = w.os
  tape : w'.tape = w.tape
  output : w'.output = w.output
  size : w.heap.size ≤ w'.heap.size
  block : ∀ k, k < w.heap.size → k ≠ B → w'.heap[k]? = w.heap[k]?

theorem Only.refl (B : Nat) (w : World) : Only B w w := ⟨rfl, rfl, rfl, Nat.le_refl _, fun _ _ _ => rfl⟩
theorem Only.trans {B : Nat} {a b c : World} (h : Only B a b) (k : Only B b c) : Only B a c :=
  ⟨k.os.trans h.os, k.tape.trans h.tape, k.output.trans h.output, Nat.le_trans h.size k.size, fun i hi hn => (k.block i (Nat.lt_of_lt_of_le hi h.size) hn).trans (h.block i hi hn)⟩
theorem Only.of_below {B : Nat} {w w' : World} (h : Below w.heap.size w w') : Only B w w' := ⟨h.os, h.tape, h.output, h.size, fun k hk _ => h.block k hk⟩
theorem Only.below {B n : Nat} {w w' : World} (h : Only B w w') (h1 : n ≤ B) (h2 : n ≤ w.heap.size) : Below n w w' := ⟨h.os, h.tape, h.output, h.size, fun k hk => h.block k (by omega) (by omega)⟩
theorem Only.grown {B n : Nat} {w w' : World} {row : Option Nat} (hg : w.grownBy w' row) (hr : ∀ k, row = some k → n ≤ k) {a : World} (h : Only B a w) (hn : a.heap.size ≤ n) : Only B a w' :=
  ⟨hg.os.trans h.os, hg.tape.trans h.tape, hg.output.trans h.output, Nat.le_trans h.size hg.size, fun k hk hB => (hg.block k (Nat.lt_of_lt_of_le hk h.size) (fun e => by have := hr k e.symm; omega)).trans (h.block k hk hB)⟩
theorem Only.cell {B : Nat} {w w' : World} (h : Only B w w') {b off : Nat} {u : Value} (hc : w.cell? ⟨b, off, none⟩ = some u) (hn : b ≠ B) : w'.cell? ⟨b, off, none⟩ = some u :=
  (World.cell?_of_block (w := w) (h.block b (World.block_lt_of_cell? w _ hc) hn)).trans hc

/-- .. and its block is new too, be it empty. -/
def IntOwn (B : Nat) (w : World) (v : Value) (l : List Int) : Prop := IntNew B w v l ∧ ∀ g, v.ownBlock = some g → B ≤ g ∧ g < w.heap.size
theorem owns_own {w : World} {base : Nat} {e : TypeId} {v : Value} {l : List Int} (h : w.ownsRow base e 1 v l.length (l.map (Value.int .i64))) : IntOwn base w v l := ⟨owns_int h, fun g hg => h.lt g hg⟩

theorem IntAt.only {B : Nat} {w w' : World} {v : Value} {l : List Int} {ao : Option Addr} {b off cap : Nat} (h : SlAt w 1 IntC v l ao b off cap) (ho : Only B w w') (hn : b ≠ B) : SlAt w' 1 IntC v l ao b off cap :=
  ⟨h.hv, h.ha, h.hn, fun k x hx => ho.cell (h.hc k x hx) hn⟩

theorem erase_take {l : List Int} {at' : Nat} (_h : at' < l.length) : l.eraseIdx at' = l.take at' ++ l.drop (at' + 1) := List.eraseIdx_eq_take_drop_succ ..

end Go.Proofs.YtomijmikkbhgmaaGreat

namespace Go.Proofs.YtomijmikkbhgmaaGreat
open Go.RowKit

theorem Ev4C.lt {w : World} {b off : Nat} {x : Evt} (h : Ev4C w b off x) : b < w.heap.size := World.block_lt_of_cell? w _ h.c0
theorem Ev9C.lt {w : World} {b off : Nat} {x : Evt} (h : Ev9C w b off x) : b < w.heap.size := World.block_lt_of_cell? w _ h.c0

theorem wrs_hit {x : Evt} {loc : Int} (h1 : (x.kind == 1) = true) (h2 : (x.loc == loc) = true) (E : List Evt) (k : Nat) : wrs (x :: E) k loc = (k : Int) :: wrs E (k + 1) loc := by rw [wrs, h1, h2]; rfl
theorem wrs_mis {x : Evt} {loc : Int} (h : (x.kind == 1 && x.loc == loc) = false) (E : List Evt) (k : Nat) : wrs (x :: E) k loc = wrs E (k + 1) loc := by rw [wrs, h]; rfl

set_option maxHeartbeats 1000000 in
theorem writesP_any (E : List Evt) (hE : E.length ≤ 96) (loc : Int) (v : Value) (w : World) (h : Ev4At w v E) :
    Calls Tryz.prog 133 #[v, .int .i64 loc] w fun e w' => ∃ u, e = .returned u ∧ IntNew w.heap.size w' u (wrs E 0 loc) ∧ Below w.heap.size w w' := by
  obtain ⟨ao, b, off, cap, hv, ha, _, hc⟩ := h
  subst hv
  obtain ⟨i0, hi, hz0, hz1, hz2⟩ := info_parts Tryz.info3
  have HI : Hid (Tryz.prog.info? 3 = some i0 ∧ i0.zero = some (.int .i64 0) ∧ i0.size = 1 ∧ i0.bytes = 8) := ⟨hi, hz0, hz1, hz2⟩
  clear hi hz0 hz1 hz2
  go_enter Tryz.func133, Tryz.ntmps133
  go_wp2_with fail
  go_loopw [5, 10] (fun u i wr => ∃ (k : Nat) (xs : List Int), k ≤ E.length ∧ i = .int .i64 k ∧ xs.length ≤ k ∧ Hid (wrs E 0 loc = xs ++ wrs (E.drop k) k loc) ∧ wr.ownsRow w.heap.size 3 1 u xs.length (xs.map (Value.int .i64)) ∧ Below w.heap.size w wr) (fun _ i _ => E.length - (intOf i).toNat)
  case atStart => exact ⟨0, [], Nat.zero_le _, rfl, Nat.le_refl _, rfl, World.ownsRow_nil _ _ _ _, Below.refl _ _⟩
  case round =>
    obtain ⟨k, xs, hk, rfl, hxk, hn, hown, hb⟩ := hrel
    by_cases hlt : k < E.length
    · obtain ⟨x, hx⟩ := get_of_lt hlt
      have hC := hc k x hx
      have hbl := hC.lt
      obtain rfl := ha (ne_nil hlt)
      obtain ⟨c0, c1, c2, c3⟩ := ev4C_keeps _ _ _ _ _ hb hC
      have HN : Hid (wrs E 0 loc = xs ++ wrs (x :: E.drop (k + 1)) k loc) := by rw [← drop_cons hx]; exact hn
      have hsz := hb.size
      clear hn hx hc hC ha
      cases h1 : x.kind == 1
      · have HM : Hid (wrs E 0 loc = xs ++ wrs (E.drop (k + 1)) (k + 1) loc) := HN.out.trans (by rw [wrs_mis (by rw [h1]; rfl)])
        go_wp2_with fail
        go_roundw
        case measure => simp [intOf]; omega
        case rel => exact ⟨k + 1, xs, by omega, by go_num, by omega, HM.out, hown.alloc _, hb.alloc hb.size _⟩
      · cases h2 : x.loc == loc
        · have HM : Hid (wrs E 0 loc = xs ++ wrs (E.drop (k + 1)) (k + 1) loc) := HN.out.trans (by rw [wrs_mis (by rw [h1, h2]; rfl)])
          go_wp2_with fail
          go_roundw
          case measure => simp [intOf]; omega
          case rel => exact ⟨k + 1, xs, by omega, by go_num, by omega, HM.out, hown.alloc _, hb.alloc hb.size _⟩
        · have HM : Hid (wrs E 0 loc = (xs ++ [(k : Int)]) ++ wrs (E.drop (k + 1)) (k + 1) loc) := HN.out.trans (by rw [wrs_hit h1 h2]; simp)
          go_wp2_with (at_builtin; refine wpList_append_own _ rfl _ _ 26 rfl w.heap.size 3 i0 (.int .i64 0) 1 8 Tryz.underlying26 HI.out.1 HI.out.2.1 HI.out.2.2.1 HI.out.2.2.2 rfl (by decide) _ _ _ rfl ((hown.alloc _).alloc _) ⟨wr.heap.size + 1, 0, none⟩ 1 1 [.int .i64 k] rfl rfl (new_one (by simp)) (by simp [Value.oneCell']) (by unfold maxLen; omega) (by omega) (by simp; omega) ?_)
          intro u' w1 hown' hgrow _
          have hb' : Below w.heap.size w w1 := Below.grown ((hb.alloc hsz _).alloc (by simp; omega) _) hgrow (by simp; omega) (fun kk e => (hown.lt kk e).1)
          clear hgrow hown
          go_wp2_with fail
          go_roundw
          case measure => simp [intOf]; omega
          case rel => exact ⟨k + 1, xs ++ [(k : Int)], by omega, by go_num, by simp; omega, HM.out, own_snoc hown', hb'⟩
    · have HM : Hid (wrs E 0 loc = xs) := hn.out.trans (by rw [drop_nil hlt]; simp [wrs])
      clear hn hc ha
      go_wp2_with fail
      go_ret
      exact ⟨_, rfl, by rw [HM.out]; exact owns_int hown, hb⟩

set_option maxHeartbeats 1000000 in
theorem writesR_any (E : List Evt) (hE : E.length ≤ 96) (loc : Int) (v : Value) (w : World) (h : Ev9At w v E) :
    Calls Tryz.prog 109 #[v, .int .i64 loc] w fun e w' => ∃ u, e = .returned u ∧ IntNew w.heap.size w' u (wrs E 0 loc) ∧ Below w.heap.size w w' := by
  obtain ⟨ao, b, off, cap, hv, ha, _, hc⟩ := h
  subst hv
  obtain ⟨i0, hi, hz0, hz1, hz2⟩ := info_parts Tryz.info3
  have HI : Hid (Tryz.prog.info? 3 = some i0 ∧ i0.zero = some (.int .i64 0) ∧ i0.size = 1 ∧ i0.bytes = 8) := ⟨hi, hz0, hz1, hz2⟩
  clear hi hz0 hz1 hz2
  go_enter Tryz.func109, Tryz.ntmps109
  go_wp2_with fail
  go_loopw [5, 6] (fun u i wr => ∃ (k : Nat) (xs : List Int), k ≤ E.length ∧ i = .int .i64 k ∧ xs.length ≤ k ∧ Hid (wrs E 0 loc = xs ++ wrs (E.drop k) k loc) ∧ wr.ownsRow w.heap.size 3 1 u xs.length (xs.map (Value.int .i64)) ∧ Below w.heap.size w wr) (fun _ i _ => E.length - (intOf i).toNat)
  case atStart => exact ⟨0, [], Nat.zero_le _, rfl, Nat.le_refl _, rfl, World.ownsRow_nil _ _ _ _, Below.refl _ _⟩
  case round =>
    obtain ⟨k, xs, hk, rfl, hxk, hn, hown, hb⟩ := hrel
    by_cases hlt : k < E.length
    · obtain ⟨x, hx⟩ := get_of_lt hlt
      have hC := hc k x hx
      have hbl := hC.lt
      obtain rfl := ha (ne_nil hlt)
      obtain ⟨_, _, c2, c3, _, _, _, _, _⟩ := ev9C_keeps _ _ _ _ _ hb hC
      have HN : Hid (wrs E 0 loc = xs ++ wrs (x :: E.drop (k + 1)) k loc) := by rw [← drop_cons hx]; exact hn
      have hsz := hb.size
      clear hn hx hc hC ha
      cases h1 : x.kind == 1
      · have HM : Hid (wrs E 0 loc = xs ++ wrs (E.drop (k + 1)) (k + 1) loc) := HN.out.trans (by rw [wrs_mis (by rw [h1]; rfl)])
        go_wp2_with fail
        go_roundw
        case measure => simp [intOf]; omega
        case rel => exact ⟨k + 1, xs, by omega, by go_num, by omega, HM.out, hown, hb⟩
      · cases h2 : x.loc == loc
        · have HM : Hid (wrs E 0 loc = xs ++ wrs (E.drop (k + 1)) (k + 1) loc) := HN.out.trans (by rw [wrs_mis (by rw [h1, h2]; rfl)])
          go_wp2_with fail
          go_roundw
          case measure => simp [intOf]; omega
          case rel => exact ⟨k + 1, xs, by omega, by go_num, by omega, HM.out, hown, hb⟩
        · have HM : Hid (wrs E 0 loc = (xs ++ [(k : Int)]) ++ wrs (E.drop (k + 1)) (k + 1) loc) := HN.out.trans (by rw [wrs_hit h1 h2]; simp)
          go_wp2_with (at_builtin; refine wpList_append_own _ rfl _ _ 26 rfl w.heap.size 3 i0 (.int .i64 0) 1 8 Tryz.underlying26 HI.out.1 HI.out.2.1 HI.out.2.2.1 HI.out.2.2.2 rfl (by decide) _ _ _ rfl (hown.alloc _) ⟨wr.heap.size, 0, none⟩ 1 1 [.int .i64 k] rfl rfl (new_one rfl) (by simp [Value.oneCell']) (by unfold maxLen; omega) (by omega) (by simp; omega) ?_)
          intro u' w1 hown' hgrow _
          have hb' : Below w.heap.size w w1 := Below.grown (hb.alloc hsz _) hgrow (by simp; omega) (fun kk e => (hown.lt kk e).1)
          clear hgrow hown
          go_wp2_with fail
          go_roundw
          case measure => simp [intOf]; omega
          case rel => exact ⟨k + 1, xs ++ [(k : Int)], by omega, by go_num, by simp; omega, HM.out, own_snoc hown', hb'⟩
    · have HM : Hid (wrs E 0 loc = xs) := hn.out.trans (by rw [drop_nil hlt]; simp [wrs])
      clear hn hc ha
      go_wp2_with fail
      go_ret
      exact ⟨_, rfl, by rw [HM.out]; exact owns_int hown, hb⟩

end Go.Proofs.YtomijmikkbhgmaaGreat

namespace Go.Proofs.YtomijmikkbhgmaaGreat
open Go.RowKit

def ev4 (x : Evt) : List Value := [.int .i64 x.thread, .int .i64 x.place, .int .i64 x.kind, .int .i64 x.loc]
def ev9 (x : Evt) : List Value := [.int .i64 x.thread, .int .i64 x.place, .int .i64 x.kind, .int .i64 x.loc, .int .i64 x.ins.op, .int .i64 x.ins.loc, .int .i64 x.ins.reg, .int .i64 x.ins.val, .int .i64 x.ins.mode]

def evOf (i j : Nat) (y : Int) (x : Ins) : Evt := ⟨i, j, y, x.loc, x⟩
theorem evsK_cons (i j : Nat) (x : Ins) (y : Int) (ks : List Int) : evsK i j x (y :: ks) = evOf i j y x :: evsK i j x ks := rfl

theorem Tryz.infoEvent : (Tryz.prog.info? 75).map (fun i => (i.zero, i.size, i.bytes)) = some (some (.agg #[.int .i64 0, .int .i64 0, .int .i64 0, .int .i64 0]), 4, 32) := by kernel_rfl

theorem own_snocF {w : World} {base : Nat} {e : TypeId} {s : Nat} {v : Value} {E : List Evt} {a : Evt} {f : Evt → List Value} {news : List Value} (h : w.ownsRow base e s v (E.length + 1) (E.flatMap f ++ news)) (hn : news = f a) :
    w.ownsRow base e s v (E ++ [a]).length ((E ++ [a]).flatMap f) := by subst hn; simpa using h

theorem owns_ev4 {w : World} {base : Nat} {e : TypeId} {v : Value} {E : List Evt} (h : w.ownsRow base e 4 v E.length (E.flatMap ev4)) : Ev4At w v E := by
  obtain ⟨ao, b, off, cap, hs, _⟩ := owns_read (C := Ev4C) ev4 4 (fun _ => rfl) (fun b off x hx => ⟨hx 0 _ rfl, hx 1 _ rfl, hx 2 _ rfl, hx 3 _ rfl⟩) h
  exact ⟨ao, b, off, cap, hs⟩

theorem owns_ev9 {w : World} {base : Nat} {e : TypeId} {v : Value} {E : List Evt} (h : w.ownsRow base e 9 v E.length (E.flatMap ev9)) : Ev9At w v E := by
  obtain ⟨ao, b, off, cap, hs, _⟩ := owns_read (C := Ev9C) ev9 9 (fun _ => rfl) (fun b off x hx => ⟨hx 0 _ rfl, hx 1 _ rfl, hx 2 _ rfl, hx 3 _ rfl, hx 4 _ rfl, hx 5 _ rfl, hx 6 _ rfl, hx 7 _ rfl, hx 8 _ rfl⟩) h
  exact ⟨ao, b, off, cap, hs⟩

/-- The new cells ahead of an append of one element of several cells. -/
theorem new_many {W : World} {vs : List Value} {t : TypeId} {n : Nat} (hn : n = W.heap.size) : ∀ j u, vs[j]? = some u → (W.alloc (.cells vs.toArray t)).cell? ((⟨n, 0, none⟩ : Addr).add j) = some u := by
  intro j u hj
  subst hn
  rw [Addr.add_lit, Nat.zero_add, cell_of_row _ _ j vs.toArray t (0, 0) (heap_alloc_new W _)]
  simpa using hj

/-- .. with room for itself. -/
def Ev4Cap (w : World) (v : Value) (l : List Evt) : Prop := ∃ ao b off cap, SlAt w 4 Ev4C v l ao b off cap ∧ l.length ≤ cap
theorem Ev4Cap.at' {w : World} {v : Value} {l : List Evt} (h : Ev4Cap w v l) : Ev4At w v l := by
  obtain ⟨ao, b, off, cap, h, _⟩ := h
  exact ⟨ao, b, off, cap, h⟩
theorem Ev4Cap.keep {w w' : World} {v : Value} {l : List Evt} (h : Ev4Cap w v l) (hb : Below w.heap.size w w') : Ev4Cap w' v l := by
  obtain ⟨ao, b, off, cap, h, hc⟩ := h
  exact ⟨ao, b, off, cap, h.keep ev4C_keeps hb, hc⟩
theorem owns_ev4c {w : World} {base : Nat} {e : TypeId} {v : Value} {E : List Evt} (h : w.ownsRow base e 4 v E.length (E.flatMap ev4)) : Ev4Cap w v E := by
  obtain ⟨ao, b, off, cap, hs, _, hc⟩ := owns_read (C := Ev4C) ev4 4 (fun _ => rfl) (fun b off x hx => ⟨hx 0 _ rfl, hx 1 _ rfl, hx 2 _ rfl, hx 3 _ rfl⟩) h
  exact ⟨ao, b, off, cap, hs, hc⟩

set_option maxHeartbeats 2000000 in
theorem list_own (T : List (List Ins)) (vt : Value) (w : World) (ht : ThrAt w vt T) (h2 : T.length ≤ 4) (hL : lensB T = true) :
    Calls Tryz.prog 39 #[vt] w fun e w' => ∃ u, e = .returned u ∧ w'.ownsRow w.heap.size 75 4 u (evsT T 0).length ((evsT T 0).flatMap ev4) ∧ Below w.heap.size w w' := by
  obtain ⟨ht0, ao, b, off, cap, htv, hta, _, htc⟩ := ht.opened
  subst htv
  obtain ⟨i0, hi, hz0, hz1, hz2⟩ := info_parts Tryz.infoEvent
  have HI : Hid (Tryz.prog.info? 75 = some i0 ∧ i0.zero = some (.agg #[.int .i64 0, .int .i64 0, .int .i64 0, .int .i64 0]) ∧ i0.size = 4 ∧ i0.bytes = 32) := ⟨hi, hz0, hz1, hz2⟩
  clear hi hz0 hz1 hz2
  go_enter Tryz.func39, Tryz.ntmps39
  go_wp2_with fail
  go_loopw [3, 12] (fun u i wr => ∃ (k : Nat) (E : List Evt), k ≤ T.length ∧ i = .int .i64 k ∧ Hid (evsT T 0 = E ++ evsT (T.drop k) k) ∧ E.length ≤ 24 * k ∧ wr.ownsRow w.heap.size 75 4 u E.length (E.flatMap ev4) ∧ Below w.heap.size w wr) (fun _ i _ => T.length - (intOf i).toNat)
  case atStart => exact ⟨0, [], Nat.zero_le _, rfl, rfl, Nat.le_refl _, World.ownsRow_nil _ _ _ _, Below.refl _ _⟩
  case round =>
    obtain ⟨k, E, hk, rfl, hn, hE, hown, hb⟩ := hrel
    by_cases hlt : k < T.length
    · obtain ⟨l, hx⟩ := get_of_lt hlt
      obtain ⟨hbl, ao2, cap2, c0, hil⟩ := htc k l hx
      obtain rfl := hta (ne_nil hlt)
      have hl12 := lensB_get hL hx
      have HN : Hid (evsT T 0 = E ++ (evsI k l 0 ++ evsT (T.drop (k + 1)) (k + 1))) := hn.out.trans (by rw [drop_cons hx]; rfl)
      have c1 : wr.cell? ⟨b, off + k, none⟩ = some (.slice ao2 l.length cap2) := keep_cell hb c0
      have HIL : Hid (InsAt w (.slice ao2 l.length cap2) l) := hil
      have HL : Hid (lensB T = true) := hL
      have HTC : Hid (∀ k l, T[k]? = some l → b < w.heap.size ∧ ∃ ao' cap', w.cell? ⟨b, off + k, none⟩ = some (.slice ao' l.length cap') ∧ InsAt w (.slice ao' l.length cap') l) := htc
      clear hx hn hil ht c0 hL htc hta
      generalize hR : evsT (T.drop (k + 1)) (k + 1) = R at HN
      have HR : Hid (evsT (T.drop (k + 1)) (k + 1) = R) := hR
      clear hR
      go_wp2_with fail
      go_loopw [3, 19] (fun u i wr => ∃ (j : Nat) (E : List Evt), j ≤ l.length ∧ i = .int .i64 j ∧ Hid (evsT T 0 = E ++ (evsI k (l.drop j) j ++ R)) ∧ E.length ≤ 24 * k + 2 * j ∧ wr.ownsRow w.heap.size 75 4 u E.length (E.flatMap ev4) ∧ Below w.heap.size w wr) (fun _ i _ => l.length - (intOf i).toNat)
      case atStart => exact ⟨0, E, Nat.zero_le _, rfl, HN.out, by omega, hown, hb⟩
      case round =>
        clear HN hown hb c1 hE
        obtain ⟨j, E2, hj, rfl, hn, hE2, hown, hb2⟩ := hrel
        have hsz := hb2.size
        by_cases hlt2 : j < l.length
        · obtain ⟨x, hx⟩ := get_of_lt hlt2
          obtain ⟨_, ao3, b3, off3, cap3, hv3, ha3, _, hc3⟩ := HIL.out
          have hC := hc3 j x hx
          have hbl3 := hC.lt
          obtain ⟨c0, c1, c2, c3, c4⟩ := insC_keeps _ _ _ _ _ hb2 hC
          have HN2 : Hid (evsT T 0 = E2 ++ (evsK k j x (kindsOf x.op) ++ (evsI k (l.drop (j + 1)) (j + 1) ++ R))) := hn.out.trans (by rw [drop_cons hx, evsI]; simp)
          simp only [Value.slice.injEq] at hv3
          obtain ⟨e1, _, e3⟩ := hv3
          rw [ha3 (ne_nil hlt2)] at e1
          subst e1
          clear hn hc3 hC ha3 e3 hx
          generalize hR2 : evsI k (l.drop (j + 1)) (j + 1) ++ R = R2 at HN2
          have HR2 : Hid (evsI k (l.drop (j + 1)) (j + 1) ++ R = R2) := hR2
          clear hR2
          have hkl := kindsOf_len x.op
          generalize hks : kindsOf x.op = ks at HN2 hkl
          have HKS : Hid (kindsOf x.op = ks) := hks
          clear hks
          go_wp2_with (go_at_call 72; refine (kindsP_any x.op _).mono ?_; rw [HKS.out]; rintro e w3 ⟨u2, rfl, hu2, hb3⟩; obtain ⟨ao4, b4, off4, cap4, ⟨hv4, ha4, _, hc4⟩, hb4⟩ := hu2; subst hv4)
          simp only [World.size_alloc] at hb4
          have hown3 := own_keep (hown.alloc _) hb3
          have hbw3 : Below w.heap.size w w3 := below_more (hb2.alloc hsz _) hb3
          have hap4 : some b4 ≠ u3.ownBlock := fun e => by have := (hown.lt b4 e.symm).2; omega
          have hap5 : some wr.heap.size ≠ u3.ownBlock := fun e => by have := (hown.lt _ e.symm).2; omega
          have d1 : w3.cell? ⟨wr.heap.size, 1, none⟩ = some (.int .i64 x.loc) := by
            rw [hb3.cell (by simp)]; simp
          have HC4 : Hid (∀ j y, ks[j]? = some y → w3.cell? ⟨b4, off4 + j, none⟩ = some (.int .i64 y)) := fun j y hj => by
            have := hc4 j y hj; unfold IntC at this; rwa [Nat.mul_one] at this
          clear hc4 hb3 hown hb2 c0 c1 c2 c3 c4
          generalize wr.heap.size = B7 at d1 hap5 hsz hb4 ⊢
          generalize hg0 : u3.ownBlock = g0 at hap4 hap5
          go_loopw [3, 28] (fun u i wr => ∃ (m : Nat) (E : List Evt), m ≤ ks.length ∧ i = .int .i64 m ∧ Hid (evsT T 0 = E ++ (evsK k j x (ks.drop m) ++ R2)) ∧ E.length ≤ 24 * k + 2 * j + m ∧ wr.ownsRow w.heap.size 75 4 u E.length (E.flatMap ev4) ∧ Aw w3 wr g0 u ∧ Below w.heap.size w wr) (fun _ i _ => ks.length - (intOf i).toNat)
          case atStart => exact ⟨0, E2, Nat.zero_le _, rfl, HN2.out, by omega, hown3, hg0 ▸ Aw.refl _ _, hbw3⟩
          case round =>
            obtain ⟨m, E3, hm, rfl, hn, hE3, hown, haw, hb⟩ := hrel
            clear hown3 hbw3 HN2 hg0 hE2
            have hsz3 := hb.size
            by_cases hlt3 : m < ks.length
            · obtain ⟨y, hy⟩ := get_of_lt hlt3
              obtain rfl := ha4 (ne_nil hlt3)
              have c0 := haw.cell (HC4.out m y hy) hap4
              have c1 := haw.cell d1 hap5
              have hl0 := World.block_lt_of_cell? _ _ c0
              have hl1 := World.block_lt_of_cell? _ _ c1
              have HN3 : Hid (evsT T 0 = (E3 ++ [evOf k j y x]) ++ (evsK k j x (ks.drop (m + 1)) ++ R2)) := hn.out.trans (by rw [drop_cons hy, evsK_cons]; simp)
              have HAW : Hid (Aw w3 wr g0 u3) := haw
              clear hn haw hy ha4
              go_wp2_with (at_builtin; refine append_new _ rfl _ _ 73 rfl w.heap.size 75 i0 (.agg #[.int .i64 0, .int .i64 0, .int .i64 0, .int .i64 0]) 4 32 Tryz.underlying73 HI.out.1 HI.out.2.1 HI.out.2.2.1 HI.out.2.2.2 rfl (by decide) _ _ _ rfl (hown.alloc _) (some ⟨wr.heap.size, 0, none⟩) 1 1 [.int .i64 k, .int .i64 j, .int .i64 y, .int .i64 x.loc] rfl (fun h => by cases h) rfl (fun ad had => by cases had; exact new_many rfl) (by simp [Value.oneCell']) (by unfold maxLen; omega) (by omega) (by simp; omega) ?_)
              intro u' w1 hown' hgrow hap'
              have hb' : Below w.heap.size w w1 := Below.grown (hb.alloc hsz3 _) hgrow (by simp; omega) (fun kk e => (hown.lt kk e).1)
              have haw' : Hid (Aw w3 w1 g0 u') := (HAW.out.below (below_alloc _ _)).grown hgrow (by simpa using hap')
              have HO : Hid (w1.ownsRow w.heap.size 75 4 u' (E3 ++ [evOf k j y x]).length ((E3 ++ [evOf k j y x]).flatMap ev4)) := own_snocF hown' rfl
              clear hgrow hown hap' HAW hown' c0 c1 hl0 hl1 hb
              go_wp2_with fail
              go_roundw
              case measure => simp [intOf]; omega
              case rel => exact ⟨m + 1, _, by omega, by go_num, HN3.out, by simp; omega, HO.out, haw'.out, hb'⟩
            · have HM : Hid (evsT T 0 = E3 ++ (evsI k (l.drop (j + 1)) (j + 1) ++ R)) := hn.out.trans (by rw [drop_nil hlt3, HR2.out]; rfl)
              clear hn haw HC4 d1
              go_wp2_with fail
              go_roundw
              case measure => simp [intOf]; omega
              case rel => exact ⟨j + 1, E3, by omega, by go_num, HM.out, by omega, hown, hb⟩
        · have HM : Hid (evsT T 0 = E2 ++ evsT (T.drop (k + 1)) (k + 1)) := hn.out.trans (by rw [drop_nil hlt2, HR.out]; rfl)
          clear hn
          go_wp2_with fail
          go_roundw
          case measure => simp [intOf]; omega
          case rel => exact ⟨k + 1, E2, by omega, by go_num, HM.out, by omega, hown, hb2⟩
    · have HM : Hid (evsT T 0 = E) := hn.out.trans (by rw [drop_nil hlt]; simp [evsT])
      clear hn htc hta ht
      go_wp2_with fail
      go_ret
      exact ⟨_, rfl, by rw [HM.out]; exact hown, hb⟩

theorem list_cap (T : List (List Ins)) (vt : Value) (w : World) (ht : ThrAt w vt T) (h2 : T.length ≤ 4) (hL : lensB T = true) :
    Calls Tryz.prog 39 #[vt] w fun e w' => ∃ u, e = .returned u ∧ Ev4Cap w' u (evsT T 0) ∧ Below w.heap.size w w' := by
  refine (list_own T vt w ht h2 hL).mono ?_
  rintro e w' ⟨u, he, hu, hb⟩
  exact ⟨u, he, owns_ev4c hu, hb⟩

theorem list_any (T : List (List Ins)) (vt : Value) (w : World) (ht : ThrAt w vt T) (h2 : T.length ≤ 4) (hL : lensB T = true) :
    Calls Tryz.prog 39 #[vt] w fun e w' => ∃ u, e = .returned u ∧ Ev4At w' u (evsT T 0) ∧ Below w.heap.size w w' := by
  refine (list_cap T vt w ht h2 hL).mono ?_
  rintro e w' ⟨u, he, hu, hb⟩
  exact ⟨u, he, hu.at', hb⟩

end Go.Proofs.YtomijmikkbhgmaaGreat
