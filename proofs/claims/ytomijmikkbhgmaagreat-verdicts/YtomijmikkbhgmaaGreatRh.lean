import Derived.Test.YtomijmikkbhgmaaGreatT20
namespace Go.Proofs.YtomijmikkbhgmaaGreat
open Go.RowKit

def setG (g : Nat → Int) (i : Nat) (v : Int) : Nat → Int := fun j => if j = i then v else g j
def inN (n : Nat) (x : Int) : Bool := decide (0 ≤ x) && decide (x < (n : Int))
/-- The Writes of a list get their places, from p + 1 on. -/
def wrG (n : Nat) : List Int → Nat → (Nat → Int) → (Nat → Int)
  | [], _, g => g
  | x :: l, p, g => wrG n l (p + 1) (if inN n x then setG g x.toNat ((p : Int) + 1) else g)
def ordG (n : Nat) : List (List Int) → (Nat → Int) → (Nat → Int)
  | [], g => g
  | l :: L, g => ordG n L (wrG n l 0 g)
/-- The Reads get those of what they read from. -/
def rdG (n : Nat) : List Int → Nat → (Nat → Int) → (Nat → Int)
  | [], _, g => g
  | x :: l, r, g => rdG n l (r + 1) (if inN n x then setG g r (g x.toNat) else g)
def rankG (n : Nat) (S : List Int) (order : List (List Int)) : Nat → Int := rdG n S 0 (ordG n order (fun _ => 0))

theorem Row.setG {w wr : World} {bT n : Nat} {g : Nat → Int} (h : Row w wr bT n g) (i : Nat) (x : Int) : Row w (wr.setCell ⟨bT, i, none⟩ (.int .i64 x)) bT n (setG g i x) := h.set i x fun _ _ => rfl

theorem inN_no {n : Nat} {x : Int} (h : ¬ (0 ≤ x ∧ x < (n : Int))) : inN n x = false := by
  unfold inN
  cases hh : (decide (0 ≤ x) && decide (x < (n : Int)))
  · rfl
  · simp only [Bool.and_eq_true, decide_eq_true_eq] at hh; exact absurd hh h
theorem inN_yes {n : Nat} {a : Nat} (h : a < n) : inN n (a : Int) = true := by unfold inN; simp; exact h

set_option maxRecDepth 20000 in
set_option maxHeartbeats 1000000 in
theorem ranks_any (E : List Evt) (hE : E.length ≤ 96) (S : List Int) (hS : S.length = E.length) (order : List (List Int)) (h3 : order.length ≤ 3) (h96 : ∀ l ∈ order, l.length ≤ 96) (v vs vo : Value) (w : World) (h : Ev4At w v E) (hs : IntAt w vs S) (ho : LstAt w vo order) :
    Calls Tryz.prog 99 #[v, vs, vo] w fun e w' => e = .returned (.slice (some ⟨w.heap.size, 0, none⟩) E.length E.length) ∧ Row w w' w.heap.size E.length (rankG E.length S order) := by
  obtain ⟨ao, b, off, cap, hv, _⟩ := h
  obtain ⟨aos, bs, offs, caps, hvs, has, _, hcs⟩ := hs
  obtain ⟨aoo, bo, offo, capo, hvo, hao, _, hco⟩ := ho
  subst hv hvs hvo
  rw [hS]
  have HS : Hid (∀ k a, S[k]? = some a → IntC w bs (offs + k * 1) a) := hcs
  have HO : Hid (∀ k l, order[k]? = some l → LC w bo (offo + k * 1) l) := hco
  have HL : Hid (∀ l ∈ order, l.length ≤ 96) := h96
  have HSL : Hid (S.length = E.length) := hS
  have hmk := run_make_row' (P := Tryz.prog) 26 3 (.int .i64 0) 8 Tryz.underlying26 Tryz.info3 rfl .i64 .i64 E.length (by omega) (by omega)
  have HG : Hid (rankG E.length S order = rdG E.length S 0 (ordG E.length (order.drop 0) (fun _ => 0))) := rfl
  generalize rankG E.length S order = G at HG ⊢
  generalize E.length = n at *
  have HG0 : Hid (Row w (w.alloc (.cells (madeCells #[.int .i64 0] n) 3)) w.heap.size n (fun _ => 0)) := ⟨below_alloc _ _, World.rowIs_made w (.int .i64 0) n 3, Nat.le_refl _⟩
  clear hcs hco h96 hS
  go_enter Tryz.func99, Tryz.ntmps99
  go_wp2_with fail
  clear hmk
  go_loopw [19] (fun i wr => ∃ (k : Nat) (g : Nat → Int), k ≤ order.length ∧ i = .int .i64 k ∧ Hid (G = rdG n S 0 (ordG n (order.drop k) g)) ∧ Hid (Row w wr w.heap.size n g)) (fun i _ => order.length - (intOf i).toNat)
  case atStart => exact ⟨0, _, Nat.zero_le _, rfl, HG.out, HG0.out⟩
  case round =>
    clear HG HG0
    obtain ⟨k, g, hk, rfl, hg, hr⟩ := hrel
    have HR := hr
    by_cases hlt : k < order.length
    · obtain ⟨l, hl⟩ := get_of_lt hlt
      obtain rfl := hao (ne_nil hlt)
      obtain ⟨ul, u0, iul⟩ := lc_keeps _ _ _ _ _ hr.out.hb (HO.out k l hl)
      obtain ⟨aol, bl, offl, capl, hvl, hal, _, _⟩ := iul
      subst hvl
      rw [Nat.mul_one] at u0
      have hl96 := HL.out l (List.mem_of_getElem? hl)
      obtain ⟨ul2, u02, iul2⟩ := HO.out k l hl
      rw [Nat.mul_one] at u02
      have hu2 : ul2 = .slice aol l.length capl := by have h1 := keep_cell hr.out.hb u02; rw [u0] at h1; exact (Option.some.inj h1).symm
      subst hu2
      obtain ⟨aol', bl', offl', capl', hvl', hal', _, hcl'⟩ := iul2
      simp only [Value.slice.injEq] at hvl'
      obtain ⟨rfl, _, rfl⟩ := hvl'
      have HCL : Hid (∀ k a, l[k]? = some a → IntC w bl' (offl' + k * 1) a) := hcl'
      have HG1 : Hid (G = rdG n S 0 (ordG n (order.drop (k + 1)) (wrG n (l.drop 0) 0 g))) := hg.out.trans (by rw [drop_cons hl]; rfl)
      have hkI : (k : Int) < (order.length : Int) := by omega
      clear hg hr hcl' hl hal u02
      go_wp2_with fail
      clear u0
      go_loopw [25] (fun i wr => ∃ (p : Nat) (g : Nat → Int), p ≤ l.length ∧ i = .int .i64 p ∧ Hid (G = rdG n S 0 (ordG n (order.drop (k + 1)) (wrG n (l.drop p) p g))) ∧ Hid (Row w wr w.heap.size n g)) (fun i _ => l.length - (intOf i).toNat)
      case atStart => exact ⟨0, g, Nat.zero_le _, rfl, HG1.out, HR.out⟩
      case round =>
        clear HG1 HR
        obtain ⟨p, g2, hp, rfl, hg, hr⟩ := hrel
        have HR := hr
        by_cases hpl : p < l.length
        · obtain ⟨x, hx⟩ := get_of_lt hpl
          obtain rfl := hal' (ne_nil hpl)
          have q0 := intC_keeps _ _ _ _ _ hr.out.hb (HCL.out p x hx)
          unfold IntC at q0
          rw [Nat.mul_one] at q0
          have hpI : (p : Int) < (l.length : Int) := by omega
          have HG2 : Hid (G = rdG n S 0 (ordG n (order.drop (k + 1)) (wrG n (l.drop (p + 1)) (p + 1) (if inN n x then setG g2 x.toNat ((p : Int) + 1) else g2)))) := hg.out.trans (by rw [drop_cons hx]; rfl)
          clear hg hr hx
          by_cases hin : 0 ≤ x ∧ x < (n : Int)
          · obtain ⟨hx0, hxn⟩ := hin
            obtain ⟨a, rfl⟩ := Int.eq_ofNat_of_zero_le hx0
            have han : a < n := by omega
            have HG3 : Hid (G = rdG n S 0 (ordG n (order.drop (k + 1)) (wrG n (l.drop (p + 1)) (p + 1) (setG g2 a ((p : Int) + 1))))) := HG2.out.trans (by rw [if_pos (inN_yes han), Int.toNat_natCast])
            have HR2 : Hid (Row w (wr.setCell ⟨w.heap.size, a, none⟩ (.int .i64 ((p : Int) + 1))) w.heap.size n (setG g2 a ((p : Int) + 1))) := HR.out.setG a _
            have t0 := HR.out.row.cell han
            have z0 := HR.out.row.frozen a
            have s0 := HR.out.row.lt
            clear HR HG2
            go_wp2_with fail
            go_roundw
            case measure => simp [intOf]; omega
            case rel => exact ⟨p + 1, _, by omega, by go_num, HG3.out, HR2.out⟩
          · have HG3 : Hid (G = rdG n S 0 (ordG n (order.drop (k + 1)) (wrG n (l.drop (p + 1)) (p + 1) g2))) := HG2.out.trans (by rw [if_neg (by rw [inN_no hin]; simp)])
            clear HG2
            cases hx0 : decide (0 ≤ x)
            · go_wp2_with fail
              go_roundw
              case measure => simp [intOf]; omega
              case rel => exact ⟨p + 1, _, by omega, by go_num, HG3.out, HR.out⟩
            · have hxn : decide (x < (n : Int)) = false := by
                rw [decide_eq_false_iff_not]
                intro h
                simp only [decide_eq_true_eq] at hx0
                exact hin ⟨hx0, h⟩
              go_wp2_with fail
              go_roundw
              case measure => simp [intOf]; omega
              case rel => exact ⟨p + 1, _, by omega, by go_num, HG3.out, HR.out⟩
        · have HG2 : Hid (G = rdG n S 0 (ordG n (order.drop (k + 1)) g2)) := hg.out.trans (by rw [drop_nil hpl]; rfl)
          have hpI : (l.length : Int) ≤ (p : Int) := by omega
          clear hg hr
          go_wp2_with fail
          go_roundw
          case measure => simp [intOf]; omega
          case rel => exact ⟨k + 1, _, by omega, by go_num, HG2.out, HR.out⟩
    · have HG1 : Hid (G = rdG n (S.drop 0) 0 g) := hg.out.trans (by rw [drop_nil hlt]; rfl)
      have hkI : (order.length : Int) ≤ (k : Int) := by omega
      clear hg hr
      go_wp2_with fail
      go_loopw [47] (fun i wr => ∃ (r : Nat) (g : Nat → Int), r ≤ n ∧ i = .int .i64 r ∧ Hid (G = rdG n (S.drop r) r g) ∧ Hid (Row w wr w.heap.size n g)) (fun i _ => n - (intOf i).toNat)
      case atStart => exact ⟨0, _, Nat.zero_le _, rfl, HG1.out, HR.out⟩
      case round =>
        clear HG1 HR
        obtain ⟨r, g2, hrn, rfl, hg, hr⟩ := hrel
        have HR := hr
        by_cases hlt2 : r < n
        · obtain ⟨x, hx⟩ := get_of_lt (l := S) (k := r) (by have := HSL.out; omega)
          obtain rfl := has (by intro h; rw [h] at hx; simp at hx)
          have q0 := intC_keeps _ _ _ _ _ hr.out.hb (HS.out r x hx)
          unfold IntC at q0
          rw [Nat.mul_one] at q0
          have hrI : (r : Int) < (n : Int) := by omega
          have HG2 : Hid (G = rdG n (S.drop (r + 1)) (r + 1) (if inN n x then setG g2 r (g2 x.toNat) else g2)) := hg.out.trans (by rw [drop_cons hx]; rfl)
          clear hg hr hx
          by_cases hin : 0 ≤ x ∧ x < (n : Int)
          · obtain ⟨hx0, hxn⟩ := hin
            obtain ⟨a, rfl⟩ := Int.eq_ofNat_of_zero_le hx0
            have han : a < n := by omega
            have HG3 : Hid (G = rdG n (S.drop (r + 1)) (r + 1) (setG g2 r (g2 a))) := HG2.out.trans (by rw [if_pos (inN_yes han), Int.toNat_natCast])
            have HR2 : Hid (Row w (wr.setCell ⟨w.heap.size, r, none⟩ (.int .i64 (g2 a))) w.heap.size n (setG g2 r (g2 a))) := HR.out.setG r _
            have t0 := HR.out.row.cell han
            have t1 := HR.out.row.cell hlt2
            have z0 := HR.out.row.frozen r
            have s0 := HR.out.row.lt
            clear HR HG2
            go_wp2_with fail
            go_roundw
            case measure => simp [intOf]; omega
            case rel => exact ⟨r + 1, _, by omega, by go_num, HG3.out, HR2.out⟩
          · have HG3 : Hid (G = rdG n (S.drop (r + 1)) (r + 1) g2) := HG2.out.trans (by rw [if_neg (by rw [inN_no hin]; simp)])
            clear HG2
            cases hx0 : decide (0 ≤ x)
            · go_wp2_with fail
              go_roundw
              case measure => simp [intOf]; omega
              case rel => exact ⟨r + 1, _, by omega, by go_num, HG3.out, HR.out⟩
            · have hxn : decide (x < (n : Int)) = false := by
                rw [decide_eq_false_iff_not]
                intro h
                simp only [decide_eq_true_eq] at hx0
                exact hin ⟨hx0, h⟩
              go_wp2_with fail
              go_roundw
              case measure => simp [intOf]; omega
              case rel => exact ⟨r + 1, _, by omega, by go_num, HG3.out, HR.out⟩
        · have HG2 : Hid (g2 = G) := (hg.out.trans (by rw [drop_nil (by have := HSL.out; omega)]; rfl)).symm
          have hrI : (n : Int) ≤ (r : Int) := by omega
          have HR2 : Hid (Row w wr w.heap.size n G) := by rw [← HG2.out]; exact HR.out
          clear hg hr HR
          go_wp2_with fail
          go_ret
          exact ⟨rfl, HR2.out⟩

end Go.Proofs.YtomijmikkbhgmaaGreat
