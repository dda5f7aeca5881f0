/- How many candidates: the two ways of counting come to one number. -/
import Derived.Test.YtbmlmplbhgahpaaMath
namespace Go.Proofs.Ytbmlmplbhgahpaa

def facL (E : List Evt) (j : Nat) : Nat := match j with
  | 0 => fac (wrs E 0 0).length * (fac (wrs E 0 1).length * fac (wrs E 0 2).length)
  | 1 => fac (wrs E 0 1).length * fac (wrs E 0 2).length
  | 2 => fac (wrs E 0 2).length
  | _ => 1

theorem facL_pos (E : List Evt) (j : Nat) : 1 ≤ facL E j := by
  have a := fac_pos (wrs E 0 0).length; have b := fac_pos (wrs E 0 1).length; have c := fac_pos (wrs E 0 2).length
  have bc := Nat.mul_le_mul b c
  have abc := Nat.mul_le_mul a bc
  unfold facL; split <;> omega

theorem facL_step (E : List Evt) (j : Nat) (h : j < 3) : facL E j = fac (wrs E 0 (j : Int)).length * facL E (j + 1) := by
  match j, h with
  | 0, _ => rfl
  | 1, _ => rfl
  | 2, _ => show fac _ = fac _ * 1; rw [Nat.mul_one]; rfl

theorem facL_three (E : List Evt) : facL E 3 = 1 := rfl
theorem sizeN_eq (E : List Evt) : sizeN E = prodR E E * facL E 0 := rfl

def prodUp : Nat → Nat → Nat
  | _, 0 => 1
  | k, c + 1 => k * prodUp (k + 1) c

theorem prodUp_pos (k c : Nat) (h : 1 ≤ k) : 1 ≤ prodUp k c := by
  induction c generalizing k with
  | zero => exact Nat.le_refl 1
  | succ c ih => have := Nat.mul_le_mul h (ih (k + 1) (by omega)); unfold prodUp; omega

theorem prodUp_fac (k c : Nat) : prodUp (k + 1) c * fac k = fac (k + c) := by
  induction c generalizing k with
  | zero => simp [prodUp]
  | succ c ih =>
    have := ih (k + 1)
    rw [show k + (c + 1) = k + 1 + c by omega, ← this, show fac (k + 1) = (k + 1) * fac k from rfl, show prodUp (k + 1) (c + 1) = (k + 1) * prodUp (k + 1 + 1) c from rfl]
    rw [Nat.mul_comm (k + 1) (prodUp (k + 1 + 1) c), Nat.mul_assoc]

theorem prodUp_two (m : Nat) : prodUp 2 (m + 1 - 2) = fac m := by
  cases m with
  | zero => rfl
  | succ m =>
    have := prodUp_fac 1 m
    rw [show m + 1 + 1 - 2 = m by omega]
    rw [show fac 1 = 1 from rfl, Nat.mul_one, Nat.add_comm 1 m] at this
    exact this

theorem prodUp_step {k m : Nat} (h : k ≤ m) : prodUp k (m + 1 - k) = k * prodUp (k + 1) (m + 1 - (k + 1)) := by
  rw [show m + 1 - k = (m + 1 - (k + 1)) + 1 by omega]; rfl

theorem prodUp_done {k m : Nat} (h : ¬ k ≤ m) : prodUp k (m + 1 - k) = 1 := by
  rw [show m + 1 - k = 0 by omega]; rfl

theorem cap2_big {n f : Nat} (h : 2000 < n) (hf : 1 ≤ f) : cap2 (n * f) = 2001 := by
  have := Nat.mul_le_mul_left n hf
  unfold cap2; rw [if_pos (by omega)]

theorem prodR_read {E : List Evt} {x : Evt} (h : (x.kind == 0) = true) (R : List Evt) : prodR E (x :: R) = (1 + (wrs E 0 x.loc).length) * prodR E R := by rw [prodR, if_pos h]
theorem prodR_not {E : List Evt} {x : Evt} (h : (x.kind == 0) = false) (R : List Evt) : prodR E (x :: R) = prodR E R := by rw [prodR, if_neg (by simp [h]), Nat.one_mul]

theorem mul_bd {n L a b : Nat} (hn : n ≤ a) (hL : L ≤ b) : (0 : Int) ≤ (n : Int) * (L : Int) ∧ (n : Int) * (L : Int) ≤ ((a * b : Nat) : Int) := by
  have h := Nat.mul_le_mul hn hL
  refine ⟨Int.mul_nonneg (by omega) (by omega), ?_⟩
  have : (n : Int) * (L : Int) = ((n * L : Nat) : Int) := by simp
  omega

theorem mul_bd1 {n L a b : Nat} (hn : n ≤ a) (hL : L ≤ b) : (0 : Int) ≤ (n : Int) * (1 + (L : Int)) ∧ (n : Int) * (1 + (L : Int)) ≤ ((a * (1 + b) : Nat) : Int) := by
  have h := @mul_bd n (1 + L) a (1 + b) hn (by omega)
  rw [show ((1 + L : Nat) : Int) = 1 + (L : Int) by simp] at h
  exact h

end Go.Proofs.Ytbmlmplbhgahpaa
