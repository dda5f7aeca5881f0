import Derived.Test.YtomijmikkbhgmaaGreatT27
namespace Go.Proofs.YtomijmikkbhgmaaGreat
open Go.RowKit

set_option maxRecDepth 100000 in
set_option maxHeartbeats 8000000 in
theorem candidates_any (E : List Evt) (hE : E.length ≤ 96) (v : Value) (w : World) (h : Ev9At w v E) (hs : sizeN E ≤ 2000) :
    Calls Tryz.prog 94 #[v] w fun e w' => ∃ u, e = .returned u ∧ XAt w' u (exs E) ∧ Below w.heap.size w w' := by
  have HE : Hid (Ev9At w v E) := h
  clear h
  have hP : plen (rdo E E) ≤ 2000 := by
    have h1 : sizeN E = plen (rdo E E) * facL E 0 := by rw [plen_rdo]; rfl
    have := Nat.le_mul_of_pos_right (plen (rdo E E)) (facL_pos E 0)
    omega
  have hfl : facL E 0 ≤ 2000 := by
    have h1 : sizeN E = prodR E E * facL E 0 := rfl
    have := Nat.le_mul_of_pos_left (facL E 0) (prodR_pos E E)
    omega
  have e0 : facL E 0 = fac (wrs E 0 0).length * facL E 1 := rfl
  have e1 : facL E 1 = fac (wrs E 0 1).length * facL E 2 := rfl
  have e2 : facL E 2 = fac (wrs E 0 2).length := rfl
  have k0 := Nat.le_mul_of_pos_right (fac (wrs E 0 0).length) (facL_pos E 1)
  have k1 := Nat.le_mul_of_pos_left (facL E 1) (fac_pos (wrs E 0 0).length)
  have k2 := Nat.le_mul_of_pos_right (fac (wrs E 0 1).length) (facL_pos E 2)
  have k3 := Nat.le_mul_of_pos_left (facL E 2) (fac_pos (wrs E 0 1).length)
  have HFC : Hid (fac (wrs E 0 0).length ≤ 2000 ∧ fac (wrs E 0 1).length ≤ 2000 ∧ fac (wrs E 0 2).length ≤ 2000) := ⟨by omega, by omega, by omega⟩
  have HXL : Hid ((exs E).length ≤ 2000) := by unfold Hid; rw [exs_len]; exact hs
  have HXG : Hid (exs E = (allF (rdo E E)).flatMap (g1 (ords E 0) (ords E 1) (ords E 2))) := exs_g E
  have HPL : Hid (plen (rdo E E) ≤ 2000) := hP
  clear e0 e1 e2 k0 k1 k2 k3 hfl hP hs
  generalize hXS : exs E = XS at HXL HXG
  clear hXS
  obtain ⟨iX, hi, hz0, hz1, hz2⟩ := info_parts Tryz.infoExec
  have HI : Hid (Tryz.prog.info? 29 = some iX ∧ iX.zero = some (.agg #[.slice none 0 0, .slice none 0 0]) ∧ iX.size = 2 ∧ iX.bytes = 48) := ⟨hi, hz0, hz1, hz2⟩
  clear hi hz0 hz1 hz2
  go_enter Tryz.func94, Tryz.ntmps94
  go_wp2_with fail
  refine (froms_any E hE v _ HE.out HPL.out).mono ?_
  rintro e w1 ⟨u4, rfl, hu4, hb1⟩
  go_wp2_with fail
  refine (writesR_any E hE 0 v _ (HE.out.keep hb1)).mono ?_
  rintro e w2 ⟨v0, rfl, hv0, hb2⟩
  have hbw2 := below_more hb1 hb2
  go_wp2_with fail
  refine (orders_any _ _ v0 _ rfl HFC.out.1 hv0.cap).mono ?_
  rintro e w3 ⟨u5, rfl, hu5, hb3⟩
  have hbw3 := below_more hbw2 hb3
  replace hu4 := (hu4.keep hb2).keep hb3
  clear hb1 hb2 hb3 hbw2 hv0
  go_wp2_with fail
  refine (writesR_any E hE 1 v _ (HE.out.keep hbw3)).mono ?_
  rintro e w4 ⟨v1, rfl, hv1, hb4⟩
  have hbw4 := below_more hbw3 hb4
  go_wp2_with fail
  refine (orders_any _ _ v1 _ rfl HFC.out.2.1 hv1.cap).mono ?_
  rintro e w5 ⟨u6, rfl, hu6, hb5⟩
  have hbw5 := below_more hbw4 hb5
  replace hu4 := (hu4.keep hb4).keep hb5
  have hu5' : LstC w5 u5 _ := (LstC.keep hu5.caps hb4).keep hb5
  clear hb4 hb5 hbw4 hbw3 hv1 hu5
  go_wp2_with fail
  refine (writesR_any E hE 2 v _ (HE.out.keep hbw5)).mono ?_
  rintro e w6 ⟨v2, rfl, hv2, hb6⟩
  have hbw6 := below_more hbw5 hb6
  go_wp2_with fail
  refine (orders_any _ _ v2 _ rfl HFC.out.2.2 hv2.cap).mono ?_
  rintro e w7 ⟨u7, rfl, hu7, hb7⟩
  have hbw7 := below_more hbw6 hb7
  replace hu4 := (hu4.keep hb6).keep hb7
  replace hu5' := (hu5'.keep hb6).keep hb7
  have hu6' : LstC w7 u6 _ := (LstC.keep hu6.caps hb6).keep hb7
  have hu7' : LstC w7 u7 _ := hu7.caps
  clear hb6 hb7 hbw6 hbw5 hv2 hu6 hu7
  have eA : ordN (wrs E 0 0).length (wrs E 0 0) = ords E 0 := rfl
  have eB : ordN (wrs E 0 1).length (wrs E 0 1) = ords E 1 := rfl
  have eC : ordN (wrs E 0 2).length (wrs E 0 2) = ords E 2 := rfl
  rw [eA] at hu5'
  rw [eB] at hu6'
  rw [eC] at hu7'
  have lA : (ords E 0).length ≤ 2000 := by rw [ords_len]; exact HFC.out.1
  have lB : (ords E 1).length ≤ 2000 := by rw [ords_len]; exact HFC.out.2.1
  have lC : (ords E 2).length ≤ 2000 := by rw [ords_len]; exact HFC.out.2.2
  have lF : (allF (rdo E E)).length ≤ 2000 := by rw [allF_len]; exact HPL.out
  generalize ords E 0 = LA at hu5' HXG lA
  generalize ords E 1 = LB at hu6' HXG lB
  generalize ords E 2 = LCc at hu7' HXG lC
  generalize allF (rdo E E) = LF at hu4 HXG lF
  obtain ⟨aoF, bF, offF, capF, hsF⟩ := hu4
  obtain ⟨aoA, bA, offA, capA, hsA⟩ := hu5'
  obtain ⟨aoB, bB, offB, capB, hsB⟩ := hu6'
  obtain ⟨aoC, bC, offC, capC, hsC⟩ := hu7'
  have e4 := hsF.hv
  have e5 := hsA.hv
  have e6 := hsB.hv
  have e7 := hsC.hv
  subst e4 e5 e6 e7
  have HSS : Hid (SlAt w7 1 LC (.slice aoF LF.length capF) LF aoF bF offF capF ∧ SlAt w7 1 LCC (.slice aoA LA.length capA) LA aoA bA offA capA ∧ SlAt w7 1 LCC (.slice aoB LB.length capB) LB aoB bB offB capB ∧ SlAt w7 1 LCC (.slice aoC LCc.length capC) LCc aoC bC offC capC) := ⟨hsF, hsA, hsB, hsC⟩
  clear hsF hsA hsB hsC eA eB eC
  go_wp2_with fail
  go_loopw [3, 8] (fun vx i wr => ∃ (k : Nat) (X : List Exe) (vs : List Value), k ≤ LF.length ∧ i = .int .i64 k ∧ Hid (XS = X ++ (LF.drop k).flatMap (g1 LA LB LCc)) ∧ XL wr w7.heap.size vx X vs ∧ Below w7.heap.size w7 wr) (fun _ i _ => LF.length - (intOf i).toNat)
  case atStart => exact ⟨0, [], [], Nat.zero_le _, rfl, HXG.out, XL.nil _ _, Below.refl _ _⟩
  case round =>
    clear HXG
    obtain ⟨kF, X, vs, hkF, rfl, hn, hXL, hb⟩ := hrel
    have HX1 : Hid (XL wr w7.heap.size u3 X vs) := hXL
    clear hXL
    by_cases ltF : kF < LF.length
    · obtain ⟨f, hf⟩ := get_of_lt ltF
      have HNF : Hid (XS = X ++ (LA.flatMap (g2 LB LCc f) ++ (LF.drop (kF + 1)).flatMap (g1 LA LB LCc))) := hn.out.trans (by rw [flat_drop hf]; rfl)
      have HGF : Hid (LF[kF]? = some f) := hf
      generalize hR1 : (LF.drop (kF + 1)).flatMap (g1 LA LB LCc) = R1 at HNF
      have HR1 : Hid ((LF.drop (kF + 1)).flatMap (g1 LA LB LCc) = R1) := hR1
      have hfI : (kF : Int) < (LF.length : Int) := by omega
      clear hn hf hR1
      go_wp2_with fail
      go_loopw [3, 9] (fun vx i wr => ∃ (k : Nat) (X : List Exe) (vs : List Value), k ≤ LA.length ∧ i = .int .i64 k ∧ Hid (XS = X ++ ((LA.drop k).flatMap (g2 LB LCc f) ++ R1)) ∧ XL wr w7.heap.size vx X vs ∧ Below w7.heap.size w7 wr) (fun _ i _ => LA.length - (intOf i).toNat)
      case atStart => exact ⟨0, X, vs, Nat.zero_le _, rfl, HNF.out, HX1.out, hb⟩
      case round =>
        clear HNF HX1 hb
        obtain ⟨kA, X, vs, hkA, rfl, hn, hXL, hb⟩ := hrel
        have HX2 : Hid (XL wr w7.heap.size u3 X vs) := hXL
        clear hXL
        by_cases ltA : kA < LA.length
        · obtain ⟨a, ha⟩ := get_of_lt ltA
          have HNA : Hid (XS = X ++ (LB.flatMap (g3 LCc f a) ++ ((LA.drop (kA + 1)).flatMap (g2 LB LCc f) ++ R1))) := hn.out.trans (by rw [flat_drop ha, List.append_assoc]; rfl)
          have HGA : Hid (LA[kA]? = some a) := ha
          generalize hR2 : (LA.drop (kA + 1)).flatMap (g2 LB LCc f) ++ R1 = R2 at HNA
          have HR2 : Hid ((LA.drop (kA + 1)).flatMap (g2 LB LCc f) ++ R1 = R2) := hR2
          have haI : (kA : Int) < (LA.length : Int) := by omega
          clear hn ha hR2
          go_wp2_with fail
          go_loopw [3, 10] (fun vx i wr => ∃ (k : Nat) (X : List Exe) (vs : List Value), k ≤ LB.length ∧ i = .int .i64 k ∧ Hid (XS = X ++ ((LB.drop k).flatMap (g3 LCc f a) ++ R2)) ∧ XL wr w7.heap.size vx X vs ∧ Below w7.heap.size w7 wr) (fun _ i _ => LB.length - (intOf i).toNat)
          case atStart => exact ⟨0, X, vs, Nat.zero_le _, rfl, HNA.out, HX2.out, hb⟩
          case round =>
            clear HNA HX2 hb
            obtain ⟨kB, X, vs, hkB, rfl, hn, hXL, hb⟩ := hrel
            have HX3 : Hid (XL wr w7.heap.size u3 X vs) := hXL
            clear hXL
            by_cases ltB : kB < LB.length
            · obtain ⟨bb, hbb⟩ := get_of_lt ltB
              have HNB : Hid (XS = X ++ ((LCc.map fun c => (⟨f, [a, bb, c]⟩ : Exe)) ++ ((LB.drop (kB + 1)).flatMap (g3 LCc f a) ++ R2))) := hn.out.trans (by rw [flat_drop hbb, List.append_assoc]; rfl)
              have HGB : Hid (LB[kB]? = some bb) := hbb
              generalize hR3 : (LB.drop (kB + 1)).flatMap (g3 LCc f a) ++ R2 = R3 at HNB
              have HR3 : Hid ((LB.drop (kB + 1)).flatMap (g3 LCc f a) ++ R2 = R3) := hR3
              have hbI : (kB : Int) < (LB.length : Int) := by omega
              clear hn hbb hR3
              go_wp2_with fail
              go_loopw [3, 11] (fun vx i wr => ∃ (k : Nat) (X : List Exe) (vs : List Value), k ≤ LCc.length ∧ i = .int .i64 k ∧ Hid (XS = X ++ (((LCc.drop k).map fun c => (⟨f, [a, bb, c]⟩ : Exe)) ++ R3)) ∧ XL wr w7.heap.size vx X vs ∧ Below w7.heap.size w7 wr) (fun _ i _ => LCc.length - (intOf i).toNat)
              case atStart => exact ⟨0, X, vs, Nat.zero_le _, rfl, HNB.out, HX3.out, hb⟩
              case round =>
                clear HNB HX3 hb
                obtain ⟨kC, X, vs, hkC, rfl, hn, hXL, hb⟩ := hrel
                have HX4 : Hid (XL wr w7.heap.size u3 X vs) := hXL
                have hsz := hb.size
                clear hXL
                by_cases ltC : kC < LCc.length
                · obtain ⟨c, hc⟩ := get_of_lt ltC
                  have HNC : Hid (XS = (X ++ [⟨f, [a, bb, c]⟩]) ++ (((LCc.drop (kC + 1)).map fun c => (⟨f, [a, bb, c]⟩ : Exe)) ++ R3)) := hn.out.trans (by rw [drop_cons hc]; simp)
                  have hXl : X.length + 1 ≤ 2000 := by
                    have h1 := congrArg List.length HNC.out
                    have h2 := HXL.out
                    simp at h1; omega
                  obtain ⟨q1, aof, cf, dF, iF⟩ := LstAt.nth HSS.out.1 hb HGF.out
                  obtain ⟨q2, aoa, ca, dA, iA⟩ := LstC.nth HSS.out.2.1 hb HGA.out
                  obtain ⟨q3, aob, cb, dB, iB⟩ := LstC.nth HSS.out.2.2.1 hb HGB.out
                  obtain ⟨q4, aoc, cc, dC, iC⟩ := LstC.nth HSS.out.2.2.2 hb hc
                  subst q1 q2 q3 q4
                  have HII : Hid (IntAt w7 (.slice aof f.length cf) f ∧ IntCap w7 (.slice aoa a.length ca) a ∧ IntCap w7 (.slice aob bb.length cb) bb ∧ IntCap w7 (.slice aoc c.length cc) c) := ⟨iF, iA, iB, iC⟩
                  have hcI : (kC : Int) < (LCc.length : Int) := by omega
                  have m1 := World.block_lt_of_cell? _ _ dF
                  have m2 := World.block_lt_of_cell? _ _ dA
                  have m3 := World.block_lt_of_cell? _ _ dB
                  have m4 := World.block_lt_of_cell? _ _ dC
                  clear iF iA iB iC hc hn
                  go_wp2_with fail
                  go_region_law (refine step_append_new _ rfl (.tmp 47) (.tmp 66) 33 rfl w7.heap.size 29 iX (.agg #[.slice none 0 0, .slice none 0 0]) 2 48 Tryz.underlying33 HI.out.1 HI.out.2.1 HI.out.2.2.1 HI.out.2.2.2 rfl (by decide) u3 X.length vs (by simp [Act.eval]) ((HX4.out.own.drew.alloc _).alloc _) (some ⟨wr.heap.size + 1, 0, none⟩) 1 1 [.slice aof f.length cf, .slice (some ⟨wr.heap.size, 0, none⟩) 3 3] (by simp [Act.eval]) (fun h => by cases h) rfl (fun ad had => by cases had; exact new_many (by simp)) (by simp [Value.oneCell']) (by unfold maxLen; omega) (by omega) (by simp; omega) ?_; intro V8 w8 hown8 hgrow8 hap8)
                  all_goals
                    have hq := quad_step HX4.out hb HII.out.1 HII.out.2.1 HII.out.2.2.1 HII.out.2.2.2 hown8 ⟨hgrow8.os, hgrow8.tape, hgrow8.output, hgrow8.size, hgrow8.block⟩ (by simpa using hap8)
                    have HX5 : Hid (XL w8 w7.heap.size V8 (X ++ [⟨f, [a, bb, c]⟩]) (vs ++ [.slice aof f.length cf, .slice (some ⟨wr.heap.size, 0, none⟩) 3 3])) := hq.1
                    have HB5 : Hid (Below w7.heap.size w7 w8) := hq.2
                    clear hown8 hgrow8 hap8 hq HX4 hb dF dA dB dC m1 m2 m3 m4 HII hXl hsz
                    go_wp2_with fail
                    go_roundw
                    case measure => simp [intOf]; omega
                    case rel => exact ⟨kC + 1, X ++ [(⟨f, [a, bb, c]⟩ : Exe)], _, by omega, by go_num, HNC, HX5.out, HB5.out⟩
                · have HM : Hid (XS = X ++ ((LB.drop (kB + 1)).flatMap (g3 LCc f a) ++ R2)) := hn.out.trans (by rw [drop_nil ltC, HR3.out]; rfl)
                  clear hn
                  go_wp2_with fail
                  go_roundw
                  case measure => simp [intOf]; omega
                  case rel => exact ⟨kB + 1, X, vs, by omega, by go_num, HM.out, HX4.out, hb⟩
            · have HM : Hid (XS = X ++ ((LA.drop (kA + 1)).flatMap (g2 LB LCc f) ++ R1)) := hn.out.trans (by rw [drop_nil ltB, HR2.out]; rfl)
              clear hn
              go_wp2_with fail
              go_roundw
              case measure => simp [intOf]; omega
              case rel => exact ⟨kA + 1, X, vs, by omega, by go_num, HM.out, HX3.out, hb⟩
        · have HM : Hid (XS = X ++ (LF.drop (kF + 1)).flatMap (g1 LA LB LCc)) := hn.out.trans (by rw [drop_nil ltA, HR1.out]; rfl)
          clear hn
          go_wp2_with fail
          go_roundw
          case measure => simp [intOf]; omega
          case rel => exact ⟨kF + 1, X, vs, by omega, by go_num, HM.out, HX2.out, hb⟩
    · have HM : Hid (XS = X) := hn.out.trans (by rw [drop_nil ltF]; simp)
      clear hn
      go_wp2_with fail
      go_ret
      exact ⟨_, rfl, by rw [HM.out]; exact HX1.out.read, below_more hbw7 hb⟩

end Go.Proofs.YtomijmikkbhgmaaGreat
