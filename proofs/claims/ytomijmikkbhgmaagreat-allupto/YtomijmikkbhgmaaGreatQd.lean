import Derived.Test.YtomijmikkbhgmaaGreatT7
import Derived.Test.YtomijmikkbhgmaaGreatT2
import Derived.Deep.CutRange
import Derived.Deep.RegionLaw
import Derived.Deep.RegionWith
import Derived.StillTailTactics
namespace Go.Proofs.YtomijmikkbhgmaaGreat
open Go.RowKit

theorem ordAt_get {x : Exe} {loc : Int} (h3 : x.order.length = 3) (hl : locB loc = true) : ∃ m : Nat, loc = (m : Int) ∧ m < 3 ∧ x.order[m]? = some (ordAt x loc) := by
  unfold locB at hl
  simp only [Bool.and_eq_true, decide_eq_true_eq] at hl
  obtain ⟨m, rfl⟩ := Int.eq_ofNat_of_zero_le hl.1
  refine ⟨m, rfl, by omega, ?_⟩
  unfold ordAt
  rw [Int.toNat_natCast, List.getD, List.getElem?_eq_getElem (by omega)]; rfl

theorem zip_at {α β : Type} {l : List α} {m : List β} {k : Nat} {a : α} {b : β} (h1 : l[k]? = some a) (h2 : m[k]? = some b) : (l.zip m)[k]? = some (a, b) := by
  rw [List.getElem?_zip_eq_some]; exact ⟨h1, h2⟩

set_option maxRecDepth 20000 in
set_option maxHeartbeats 10000000 in
theorem arrows_any (E : List Evt) (hE : E.length ≤ 96) (hloc : ∀ y ∈ E, locB y.loc = true) (x : Exe) (hf : x.from'.length = (rdsX E 0).length) (h3 : x.order.length = 3) (h96 : ∀ l ∈ x.order, l.length ≤ 96) (v vf vo : Value) (w : World) (hev : Ev9At w v E) (hx : ExeC w vf vo x) :
    Calls Tryz.prog 144 #[v, .agg #[vf, vo]] w fun e w' => ∃ u, e = .returned u ∧ ArwOwn w.heap.size w' u (arwL E x) ∧ Below w.heap.size w w' := by
  have HE : Hid (Ev9At w v E) := hev
  have HX : Hid (ExeC w vf vo x) := hx
  obtain ⟨ao, b, off, cap, hv, ha, _, hc⟩ := hev
  obtain ⟨aof, bf, off2, capf, hvf, haf, _, hcf⟩ := hx.f
  obtain ⟨aoo, bo, off3, capo, hvo, hao, _, hco⟩ := hx.o
  subst hv hvf hvo
  have HC : Hid (∀ k y, E[k]? = some y → Ev9C w b (off + k * 9) y) := hc
  have HF : Hid (∀ k a, x.from'[k]? = some a → IntC w bf (off2 + k * 1) a) := hcf
  have HO : Hid (∀ k l, x.order[k]? = some l → LCC w bo (off3 + k * 1) l) := hco
  have HL : Hid ((∀ y ∈ E, locB y.loc = true) ∧ x.order.length = 3 ∧ ∀ l ∈ x.order, l.length ≤ 96) := ⟨hloc, h3, h96⟩
  obtain rfl := hao (by intro h; rw [h] at h3; simp at h3)
  have HA : Hid (arwL E x = ([] ++ (((rdsX E 0).zip x.from').drop 0).flatMap (arw1 x)) ++ x.order.flatMap tailsL) := rfl
  generalize arwL E x = AL at HA ⊢
  have hrl := rdsX_len E 0
  have hRI : (rdsI E 0).length = (rdsX E 0).length := List.length_map ..
  have HRI : Hid (∀ (k : Nat) (p : Nat × Evt), (rdsX E 0)[k]? = some p → (rdsI E 0)[k]? = some (p.1 : Int) ∧ E[p.1]? = some p.2) := fun k p hp => ⟨by unfold rdsI; rw [List.getElem?_map, hp]; rfl, by have := rdsX_get (List.mem_of_getElem? hp); simpa using this.2⟩
  generalize rdsX E 0 = R at HA hf hrl hRI HRI
  rw [h3, hf]
  have HFL : Hid (x.from'.length = R.length) := hf
  obtain ⟨i0, hi, hz0, hz1, hz2⟩ := info_parts Tryz.infoArw
  have HI : Hid (Tryz.prog.info? 178 = some i0 ∧ i0.zero = some (.agg #[.int .i64 0, .int .i64 0]) ∧ i0.size = 2 ∧ i0.bytes = 16) := ⟨hi, hz0, hz1, hz2⟩
  clear hi hz0 hz1 hz2 hc hcf hco hloc h3 h96 hx hao hf
  go_enter Tryz.func144, Tryz.ntmps144
  go_wp2_with fail
  refine (reads_any E hE _ _ (HE.out.keep (below_alloc _ _))).mono ?_
  generalize rdsI E 0 = RI at hRI HRI
  rintro e w2 ⟨u2, rfl, hu2, hb2⟩
  obtain ⟨ao4, b4, off4, cap4, ⟨hv4, ha4, _, hc4⟩, hb4, _⟩ := hu2
  rw [hRI] at hv4
  subst hv4
  clear hRI
  have HR4 : Hid (∀ k a, RI[k]? = some a → IntC w2 b4 (off4 + k * 1) a) := hc4
  have e0 := keep_cell hb2 (b := w.heap.size) (off := 0) (u := .slice aof R.length capf) (by simp)
  have e1 := keep_cell hb2 (b := w.heap.size) (off := 1) (u := .slice (some ⟨bo, off3, none⟩) 3 capo) (by simp)
  have hbw2 := below_more (below_alloc _ _) hb2
  have HE0 : Hid (w2.cell? ⟨w.heap.size, 0, none⟩ = some (.slice aof R.length capf) ∧ w2.cell? ⟨w.heap.size, 1, none⟩ = some (.slice (some ⟨bo, off3, none⟩) 3 capo)) := ⟨e0, e1⟩
  have hs2 := hbw2.size
  clear hc4 hb2
  go_wp2_with fail
  clear e0 e1
  go_loopw [5, 7] (fun u i wr => ∃ (k : Nat) (A : List (Int × Int)), k ≤ R.length ∧ i = .int .i64 k ∧ A.length ≤ k * 97 ∧ Hid (AL = (A ++ ((R.zip x.from').drop k).flatMap (arw1 x)) ++ x.order.flatMap tailsL) ∧ Hid (ArwOwn w2.heap.size wr u A) ∧ Below w2.heap.size w2 wr) (fun _ i _ => R.length - (intOf i).toNat)
  case atStart => exact ⟨0, [], Nat.zero_le _, rfl, by simp, HA.out, World.ownsRow_nil _ _ _ _, Below.refl _ _⟩
  case round =>
    clear HA
    obtain ⟨k, A, hk, rfl, hA, hn, hown, hb⟩ := hrel
    obtain ⟨e0, e1⟩ := HE0.out
    replace e0 := keep_cell hb e0
    replace e1 := keep_cell hb e1
    by_cases hlt : k < R.length
    · obtain ⟨⟨r, y⟩, hp⟩ := get_of_lt hlt
      obtain ⟨f, hfk⟩ := get_of_lt (l := x.from') (k := k) (by have := HFL.out; omega)
      obtain ⟨hr1, hr2⟩ := HRI.out k _ hp
      have hfl : k < x.from'.length := by have := HFL.out; omega
      have hrE : r < E.length := (List.getElem?_eq_some_iff.1 hr2).1
      obtain rfl := haf (ne_nil hfl)
      obtain rfl := ha (ne_nil hrE)
      have ha4' := ha4 (by intro h; rw [h] at hr1; simp at hr1)
      subst ha4'
      obtain ⟨m, hym, hm3, hog⟩ := ordAt_get HL.out.2.1 (HL.out.1 y (List.mem_of_getElem? hr2))
      have hol := HL.out.2.2 _ (List.mem_of_getElem? hog)
      obtain ⟨vl, o0, aol, bl, offl, capl, hsl, hcl⟩ := HO.out _ _ hog
      have hvl := hsl.hv
      subst hvl
      have o1 : IntCap w (.slice aol (ordAt x y.loc).length capl) (ordAt x y.loc) := ⟨aol, bl, offl, capl, hsl, hcl⟩
      rw [Nat.mul_one] at o0
      have HN : Hid (AL = ((A ++ ((if f == -1 then [] else [(f, (r : Int))]) ++ fanL (r : Int) (restL (ordAt x y.loc) f))) ++ ((R.zip x.from').drop (k + 1)).flatMap (arw1 x)) ++ x.order.flatMap tailsL) := hn.out.trans (by rw [drop_cons (zip_at hp hfk), List.flatMap_cons]; simp [arw1])
      clear hsl
      generalize ordAt x y.loc = L at o0 o1 hol hcl HN
      have HVL : Hid (IntCap w (.slice aol L.length capl) L) := o1
      have HK : Hid (∀ wz, Below w2.heap.size w2 wz → wz.cell? ⟨w.heap.size, 0, none⟩ = some (.slice (some ⟨bf, off2, none⟩) R.length capf) ∧ wz.cell? ⟨w.heap.size, 1, none⟩ = some (.slice (some ⟨bo, off3, none⟩) 3 capo) ∧ wz.cell? ⟨b4, off4 + k, none⟩ = some (.int .i64 r) ∧ wz.cell? ⟨bf, off2 + k, none⟩ = some (.int .i64 f) ∧ wz.cell? ⟨b, off + r * 9 + 3, none⟩ = some (.int .i64 m) ∧ wz.cell? ⟨bo, off3 + m, none⟩ = some (.slice aol L.length capl)) := fun wz hz => by
        have q0 := intC_keeps _ _ _ _ _ hz (HR4.out k _ hr1)
        have q1 := intC_keeps _ _ _ _ _ (below_more hbw2 hz) (HF.out k f hfk)
        have q2 := (ev9C_keeps _ _ _ _ _ (below_more hbw2 hz) (HC.out r y hr2)).c3
        unfold IntC at q0 q1
        rw [Nat.mul_one] at q0 q1
        rw [hym] at q2
        exact ⟨keep_cell hz HE0.out.1, keep_cell hz HE0.out.2, q0, q1, q2, keep_cell (below_more hbw2 hz) o0⟩
      obtain ⟨_, _, k0, k1, k2, k3⟩ := HK.out wr hb
      have m0 := World.block_lt_of_cell? _ _ k0
      have m1 := World.block_lt_of_cell? _ _ k1
      have m2 := World.block_lt_of_cell? _ _ e0
      have hkI : (k : Int) < (R.length : Int) := by omega
      have hrI : (r : Int) < (E.length : Int) := by omega
      have hsz := hb.size
      have HOW := hown
      clear hfl
      clear hn hp hfk hr1 hr2 o0 o1 hog hown ha4 haf ha
      go_upto_if 24 with fail
      go_cut [5] from 13 to 61 (fun u wc => Hid (ArwOwn w2.heap.size wc u (A ++ (if f == -1 then [] else [(f, (r : Int))]))) ∧ Below w2.heap.size w2 wc)
      case first =>
        cases hf1 : f == -1
        · have hf2 : (f != -1) = true := by simp [bne, hf1]
          go_wp2_with fail
          go_region_law (refine step_append_new _ rfl (.tmp 25) (.tmp 36) 151 rfl w2.heap.size 178 i0 (.agg #[.int .i64 0, .int .i64 0]) 2 16 Tryz.underlying151 HI.out.1 HI.out.2.1 HI.out.2.2.1 HI.out.2.2.2 rfl (by decide) u5 A.length (A.flatMap arwV) (by simp [Act.eval]) (HOW.out.drew.alloc _) (some ⟨wr.heap.size, 0, none⟩) 1 1 (arwV (f, (r : Int))) (by simp [Act.eval]) (fun h => by cases h) rfl (fun ad had => by cases had; exact new_many rfl) (by simp [arwV, Value.oneCell']) (by unfold maxLen; omega) (by omega) (by simp; omega) ?_; intro u' w1 hown' hgrow hap')
          all_goals
            have hb' : Below w2.heap.size w2 w1 := Below.grown ((hb.alloc hsz _).drew) hgrow (by simp; omega) (fun kk e => (HOW.out.lt kk e).1)
            have HO2 : Hid (ArwOwn w2.heap.size w1 u' (A ++ [(f, (r : Int))])) := arw_snoc hown'
            clear hgrow hown' hap'
            go_wp2_with fail
            go_meet
            case rel => exact ⟨by rw [if_neg (by rw [hf1]; simp)]; exact HO2.out, hb'⟩
        · have hf2 : (f != -1) = false := by simp [bne, hf1]
          go_wp2_with fail
          go_meet
          case rel => exact ⟨by rw [if_pos hf1, List.append_nil]; exact HOW.out, hb⟩
      case rest =>
        obtain ⟨how, hbc⟩ := hcut
        have hl1 : (A ++ (if f == -1 then [] else [(f, (r : Int))])).length ≤ k * 97 + 1 := by
          rw [List.length_append]
          split
          · simp; omega
          · simp; omega
        have HN2 : Hid (AL = (((A ++ (if f == -1 then [] else [(f, (r : Int))])) ++ fanL (r : Int) (restL L f)) ++ ((R.zip x.from').drop (k + 1)).flatMap (arw1 x)) ++ x.order.flatMap tailsL) := HN.out.trans (by simp)
        generalize (A ++ (if f == -1 then [] else [(f, (r : Int))])) = A1 at how hl1 HN2
        have HOC := how
        clear k0 k1 k2 k3 m0 m1 m2 e0 e1 hb hsz HOW HN how
        obtain ⟨e0, e1, k0, k1, k2, k3⟩ := HK.out wc hbc
        have hrl2 := restL_len L f
        have HK1 : Hid (Below w.heap.size w wc.drew) := (below_more hbw2 hbc).drew
        have hszc := hbc.size
        have hmI : (m : Int) < 3 := by omega
        go_wp2_with fail
        have HRS : Hid (Calls Tryz.prog 146 #[.slice aol L.length capl, .int .i64 f] wc.drew fun e w' => e = .returned (restV L.length aol capl L f) ∧ w' = wc.drew) := rest_at L (by omega) f aol capl hcl _ (HVL.out.keep HK1.out).at'
        have HRV : Hid (IntAt w (restV L.length aol capl L f) (restL L f)) := (restV_cap HVL.out hcl f).at'
        generalize restV L.length aol capl L f = vr at HRS HRV
        refine wp_region_still_tail 23 (by kernel_rfl) (by kernel_rfl) ?_
        simp only [List.take_succ_cons, List.take_zero, List.drop_succ_cons, List.drop_zero]
        repeat still_step
        still_call HRS.out
        refine wpStill_nil ?_
        go_wp2_with (go_at_call 164; refine (fan_any A1 (by omega) (restL L f) (by omega) (r : Int) w2.heap.size u5 vr w _ HK1.out hs2 (by simpa using hszc) HOC.out.drew HRV.out).mono ?_; rintro e w6 ⟨u', rfl, hu', hb6⟩)
        have HU : Hid (ArwOwn w2.heap.size w6 u' (A1 ++ fanL (r : Int) (restL L f))) := hu'
        have hbw6 : Below w2.heap.size w2 w6 := hbc.drew.trans hb6
        clear hu' hb6 e0 e1 k0 k1 k2 k3 hbc hszc
        go_wp2_with fail
        go_roundw
        case measure => simp [intOf]; omega
        case rel => exact ⟨k + 1, _, by omega, by go_num, by rw [List.length_append, fanL_len]; omega, HN2.out, HU.out, hbw6⟩
    · have HM : Hid (AL = A ++ (x.order.drop 0).flatMap tailsL) := hn.out.trans (by rw [drop_nil (l := R.zip x.from') (k := k) (by have := List.length_zip (l₁ := R) (l₂ := x.from'); omega)]; simp)
      have HOW := hown
      have hA2 : A.length ≤ 10000 := by omega
      clear hn hown hA
      go_wp2_with fail
      clear e0 e1
      go_loopw [5, 8] (fun u i wr => ∃ (j : Nat) (A : List (Int × Int)), j ≤ 3 ∧ i = .int .i64 j ∧ A.length ≤ 10000 + j * 10000 ∧ Hid (AL = A ++ (x.order.drop j).flatMap tailsL) ∧ Hid (ArwOwn w2.heap.size wr u A) ∧ Below w2.heap.size w2 wr) (fun _ i _ => 3 - (intOf i).toNat)
      case atStart => exact ⟨0, A, by omega, rfl, by omega, HM.out, HOW.out, hb⟩
      case round =>
        clear HM HOW hb hA2
        obtain ⟨j, A2, hj, rfl, hA, hn, hown, hb⟩ := hrel
        have e1 := keep_cell hb HE0.out.2
        by_cases hj3 : j < 3
        · obtain ⟨l, hl⟩ := get_of_lt (l := x.order) (k := j) (by have := HL.out.2.1; omega)
          obtain ⟨vl, o0, ao6, b6, off6, cap6, hs6, hcap6⟩ := HO.out _ _ hl
          have hv6 := hs6.hv
          subst hv6
          rw [Nat.mul_one] at o0
          have o1 := keep_cell (below_more hbw2 hb) o0
          have hl96 := HL.out.2.2 _ (List.mem_of_getElem? hl)
          have HS6 : Hid (SlAt w 1 IntC (.slice ao6 l.length cap6) l ao6 b6 off6 cap6) := hs6
          have HN : Hid (AL = (A2 ++ tailsL (l.drop 0)) ++ (x.order.drop (j + 1)).flatMap tailsL) := hn.out.trans (by rw [drop_cons hl, List.flatMap_cons]; simp)
          have HOW := hown
          have hjI : (j : Int) < 3 := by omega
          clear hs6 hl hn hown o0
          go_wp2_with fail
          go_loopw [5, 10] (fun u i wr => ∃ (i' : Nat) (A : List (Int × Int)), i' ≤ l.length ∧ i = .int .i64 i' ∧ A.length ≤ 10000 + j * 10000 + i' * 100 ∧ Hid (AL = (A ++ tailsL (l.drop i')) ++ (x.order.drop (j + 1)).flatMap tailsL) ∧ Hid (ArwOwn w2.heap.size wr u A) ∧ Below w2.heap.size w2 wr) (fun _ i _ => l.length - (intOf i).toNat)
          case atStart => exact ⟨0, A2, Nat.zero_le _, rfl, by omega, HN.out, HOW.out, hb⟩
          case round =>
            clear HN HOW hb e1 o1 hA
            obtain ⟨i', A3, hi, rfl, hA, hn, hown, hb⟩ := hrel
            by_cases hil : i' < l.length
            · obtain ⟨y, hy⟩ := get_of_lt hil
              have hao6 := HS6.out.ha (ne_nil hil)
              have c0 := intC_keeps _ _ _ _ _ (below_more hbw2 hb) (HS6.out.hc i' y hy)
              unfold IntC at c0
              rw [Nat.mul_one] at c0
              subst hao6
              have HN : Hid (AL = ((A3 ++ fanL y (l.drop (i' + 1))) ++ tailsL (l.drop (i' + 1))) ++ (x.order.drop (j + 1)).flatMap tailsL) := hn.out.trans (by rw [drop_cons hy]; simp [tailsL])
              obtain ⟨aoX, hX⟩ : ∃ aoX, (if cap6 = i' + 1 then (some ⟨b6, off6, none⟩ : Option Addr) else some ⟨b6, off6 + (i' + 1), none⟩) = aoX := ⟨_, rfl⟩
              have HX6 : Hid (IntAt w (.slice aoX (l.length - (i' + 1)) (cap6 - (i' + 1))) (l.drop (i' + 1))) := by
                rw [← hX]; exact (intCap_drop HS6.out hcap6 (by omega)).at'
              have hdl : (l.drop (i' + 1)).length ≤ 96 := by rw [List.length_drop]; omega
              have HOW := hown
              have HK1 : Hid (Below w.heap.size w wr.drew) := (below_more hbw2 hb).drew
              have hszc := hb.size
              have hiI : (i' : Int) < (l.length : Int) := by omega
              clear hn hown hy
              go_wp2_with fail
              have hi1 : (i' : Int) + 1 ≤ (l.length : Int) := by omega
              have hc1 : (l.length : Int) ≤ (cap6 : Int) := by omega
              refine wp_region_still_tail 9 (by kernel_rfl) (by kernel_rfl) ?_
              simp only [List.take_succ_cons, List.take_zero, List.drop_succ_cons, List.drop_zero]
              repeat still_step
              refine wpStill_step (fun K hK => ?_)
              have hwr : IntKind.i64.wrap ((i' : Int) + 1) = (i' : Int) + 1 := by rw [IntKind.wrap_i64]; omega
              have htn : ((i' : Int) + 1).toNat = i' + 1 := by omega
              have h0i : (0 : Int) ≤ (i' : Int) + 1 := by omega
              go_simp
              refine hK _ ?_
              clear hK K
              refine wpStill_nil ?_
              go_wp2_with (go_at_call 164; refine (fan_any A3 (by omega) (l.drop (i' + 1)) (by omega) y w2.heap.size u5 (.slice aoX (l.length - (i' + 1)) (cap6 - (i' + 1))) w _ HK1.out hs2 (by simpa using hszc) HOW.out.drew HX6.out).mono ?_; rintro e w6 ⟨u', rfl, hu', hb6⟩)
              have HU : Hid (ArwOwn w2.heap.size w6 u' (A3 ++ fanL y (l.drop (i' + 1)))) := hu'
              have hbw6 : Below w2.heap.size w2 w6 := hb.drew.trans hb6
              have hlen : (A3 ++ fanL y (l.drop (i' + 1))).length ≤ 10000 + j * 10000 + (i' + 1) * 100 := by rw [List.length_append, fanL_len]; omega
              clear hu' hb6 c0 hb hszc hX
              go_wp2_with fail
              go_roundw
              case measure => simp [intOf]; omega
              case rel => exact ⟨i' + 1, _, by omega, by go_num, hlen, HN.out, HU.out, hbw6⟩
            · have HM : Hid (AL = A3 ++ (x.order.drop (j + 1)).flatMap tailsL) := hn.out.trans (by rw [drop_nil hil]; simp [tailsL])
              have HOW := hown
              have hiI : (l.length : Int) ≤ (i' : Int) := by omega
              clear hn hown
              go_wp2_with fail
              go_roundw
              case measure => simp [intOf]; omega
              case rel => exact ⟨j + 1, A3, by omega, by go_num, by omega, HM.out, HOW.out, hb⟩
        · have HM : Hid (AL = A2) := hn.out.trans (by rw [drop_nil (l := x.order) (k := j) (by have := HL.out.2.1; omega)]; simp)
          have hjI : (3 : Int) ≤ (j : Int) := by omega
          have HOW := hown
          clear hn hown
          go_wp2_with fail
          go_ret
          exact ⟨_, rfl, by rw [HM.out]; exact own_base HOW.out hs2, below_more hbw2 hb⟩

end Go.Proofs.YtomijmikkbhgmaaGreat
