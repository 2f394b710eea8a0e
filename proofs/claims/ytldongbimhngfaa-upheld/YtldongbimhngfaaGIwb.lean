import Derived.Test.YtldongbimhngfaaGIwa
/- dropUnreached: the program's walk. -/
namespace Go.Proofs.Ytldongbimhngfaa
open Go.RowKit
set_option linter.unusedVariables false
set_option linter.unusedSimpArgs false

theorem FactsAt.kept {w w' : World} {base kb g n : Nat} {A : List Int} (h : FactsAt w base kb g n A) {r : Option Nat} (hg : w.grownBy w' r) (h1 : some kb ≠ r) (h2 : some g ≠ r) : FactsAt w' base kb g n A :=
  ⟨h.len, h.blk.keep hg h1, h.row.kept hg (Or.inr (fun e => h2 e))⟩
theorem facN_reach (p : Sc.Ps) (L : List Sc.In) (k : Nat) (h : k < L.length) (ha : Sc.fact p L k ≠ -2) : Sc.facN p L (k + 1) = Sc.leads (Sc.facN p L k) (Sc.edges k (p.re L[k] (Sc.fact p L k)) (p.bt (p.re L[k] (Sc.fact p L k)) (Sc.fact p L k)) (p.ot (p.re L[k] (Sc.fact p L k)) (Sc.fact p L k))) := by
  simp only [Sc.facN]
  rw [List.getElem?_eq_getElem h, fact_now p L k (by omega)]
  simp only [Sc.facE]
  rw [if_neg ha]
theorem facN_none (p : Sc.Ps) (L : List Sc.In) (k : Nat) (h : k < L.length) (ha : Sc.fact p L k = -2) : Sc.facN p L (k + 1) = Sc.facN p L k := by
  simp only [Sc.facN]
  rw [List.getElem?_eq_getElem h, fact_now p L k (by omega)]
  simp only [Sc.facE]
  rw [if_pos ha]
  rfl
theorem take_one {α : Type} (W : List α) (j : Nat) (x : α) (h : W[j]? = some x) : W.take (j + 1) = W.take j ++ [x] := by
  obtain ⟨h1, rfl⟩ := List.getElem?_eq_some_iff.1 h
  exact (List.take_append_getElem h1).symm
theorem keepD_at (L : List Sc.In) (k : Nat) (h : k < L.length) : (Sc.keepD L)[k]? = some (Sc.fact Sc.psD L k != -2) := by
  simp [Sc.keepD, h]
theorem gb_over {a b c : World} {g : Nat} (h : a.grownBy b none) (k : b.grownBy c (some g)) (hg : a.heap.size ≤ g) : a.grownBy c none := gb_grow h k (fun j hj => by cases hj; exact hg)

set_option maxRecDepth 100000 in
set_option maxHeartbeats 8000000 in
theorem iDropU_any (w : World) (sa : Option Addr) (sc : Nat) (L : List Sc.In) (hI : InsAt w sa L) (hs : SoundList L) :
    Calls Try.prog 81 #[.slice sa L.length sc] w fun e w' => ∃ v, e = .returned v ∧ w.grownBy w' none ∧ w'.ownsRow w.heap.size 46 4 v (Sc.passD L).length (insCells (Sc.passD L)) := by
  obtain ⟨iB, iB_e, iB_z, iB_s, iB_b⟩ := imBo_ex
  have iB_eq := hid iB_e
  have hn := hs.1.1
  have hp := hs.2.1
  have HI := hid hI
  have HS := hid hs
  have hFO := hid (iFactsOf_any w L.length Sc.psD hp hn)
  have hfir : Sc.psD.first = -1 := rfl
  rw [hfir] at hFO
  clear iB_e hI hs hfir
  go_enter Try.func81, Try.ntmps81
  go_wp2_with fail
  refine hFO.out.mono ?_
  rintro e w1 ⟨rfl, hg1, ho1, hlt1⟩
  have Hg1 := hid (gb_alloc hg1 (.cells #[.slice (some ⟨w.heap.size + 1, 0, none⟩) L.length L.length] 135))
  have F1 : Hid (FactsAt (w1.alloc (.cells #[.slice (some ⟨w.heap.size + 1, 0, none⟩) L.length L.length] 135)) w.heap.size w1.heap.size (w.heap.size + 1) L.length (Sc.facN Sc.psD L 0)) := ⟨by rw [facN_len], Blk.new _ _ _, ho1.alloc _⟩
  clear hFO hg1 ho1
  go_wp2_with (first
    | (at_make; refine wpList_make_own _ rfl _ _ 66 rfl w.heap.size 4 iB (.bool false) 1 imBos iB_eq.out iB_z iB_s _ _ _ L.length rfl rfl (by first | rfl | omega) (by rw [iB_b]; omega) (by unfold maxLen; omega) (by simp; omega) ?_)
    | fail)
  intro w2 hown2 hgrow2
  try simp only [World.size_alloc] at hown2
  have F2 := hid (F1.out.keep hgrow2)
  have G2 := hid (gb_trans Hg1.out hgrow2)
  have O2 := hid hown2
  clear hgrow2 hown2 F1 Hg1
  generalize w1.heap.size = kb at *
  go_wp2_with fail
  go_loopw [4, 5] (fun v i wr => ∃ (k : Nat), k ≤ L.length ∧ i = .int .i64 k ∧ v = .slice (some ⟨kb + 1, 0, none⟩) k L.length ∧ w.grownBy wr none ∧ FactsAt wr w.heap.size kb (w.heap.size + 1) L.length (Sc.facN Sc.psD L k) ∧ wr.ownsRow w.heap.size 4 1 (.slice (some ⟨kb + 1, 0, none⟩) k L.length) k (((Sc.keepD L).take k).map Value.bool)) (fun v i wr => L.length - (intOf i).toNat)
  case atStart => exact ⟨0, Nat.zero_le _, rfl, rfl, G2.out, F2.out, O2.out⟩
  case round =>
    obtain ⟨k, hkn, rfl, rfl, hg, hF, hown⟩ := hrel
    have HG := hid hg
    have HF := hid hF
    have HO := hid hown
    have hz := hg.size
    have hgl := (hF.row.lt (w.heap.size + 1) rfl).2
    clear O2 G2 F2
    by_cases hlt : k < L.length
    · have hlt' : (k : Int) < (L.length : Int) := by omega
      obtain ⟨b, off, rfl, hb, hcell⟩ := (HI.out.keep hg) k hlt
      have t0 := hcell 0 (by omega)
      have t1 := hcell 1 (by omega)
      have t2 := hcell 2 (by omega)
      have t3 := hcell 3 (by omega)
      have hA := hid (fAt_any wr w.heap.size kb (w.heap.size + 1) L.length _ hF k hlt hn)
      rw [fact_now Sc.psD L k (by omega)] at hA
      have htk : Hid (((Sc.keepD L).take (k + 1)).map Value.bool = ((Sc.keepD L).take k).map Value.bool ++ [.bool (Sc.fact Sc.psD L k != -2)]) := by
        unfold Hid; rw [take_one _ _ _ (keepD_at L k hlt)]; simp
      have hr1 := hid (facN_reach Sc.psD L k hlt)
      have hr2 := hid (facN_none Sc.psD L k hlt)
      have hGo := hid (fGoOn_any wr w.heap.size kb (w.heap.size + 1) L.length _ hF hgl k L[k] (HS.out.1.2 k hlt) hn (HS.out.tos_in k hlt) (-1) (-1))
      have hre : Sc.psD.re L[k] (Sc.fact Sc.psD L k) = L[k] := rfl
      rw [hre] at hr1
      have hbt : Sc.psD.bt L[k] (Sc.fact Sc.psD L k) = -1 := rfl
      have hot : Sc.psD.ot L[k] (Sc.fact Sc.psD L k) = -1 := rfl
      rw [hbt, hot] at hr1
      generalize Sc.fact Sc.psD L k = V at *
      clear hg hF hown hcell hre hbt hot
      generalize L[k] = X at *
      obtain ⟨op, t, f, kk⟩ := X
      simp only [inCells] at hGo
      simp [inCells] at t0 t1 t2 t3
      by_cases hV : V = -2
      · have hfn := hid (hr2.out hV)
        have e1 : (V != -2) = false := by simp [hV]
        rw [e1] at htk
        have e2 : (V == -2) = true := by simp [hV]
        clear hr1 hr2 hGo hV
        go_wp2_with fail
        refine hA.out.mono ?_
        rintro e w3 ⟨rfl, rfl⟩
        clear hA
        go_wp2_with (first
          | (at_builtin; refine wpList_append_fits _ rfl _ _ 66 rfl w.heap.size 4 iB 1 imBos iB_eq.out iB_s (kb + 1) k L.length (((Sc.keepD L).take k).map Value.bool) rfl (HO.out.alloc _) ⟨w3.heap.size, 0, none⟩ 1 1 [.bool false] rfl rfl ?c1 ?c2 (by omega) ?_)
          | fail)
        case c1 => exact new_cells _ 4 #[.bool false] _ rfl
        case c2 => intro u hu; simp at hu; subst hu; rfl
        intro w4 hown4 hgrow4
        have hF4 := (HF.out.keep (gb_alloc (gb_refl w3 none) (.cells #[.bool false] 4))).kept hgrow4 (owns_blk (HO.out.alloc _) ((HF.out.keep (gb_alloc (gb_refl w3 none) (.cells #[.bool false] 4))).blk) (by decide)) (by have := HF.out.ne; intro q; have := owns_apart (HF.out.row) (HO.out) (by decide); rcases this with z | z; cases z; exact z q)
        have HF4 := hid hF4
        have Ho4 := hid hown4
        have Hg4 := hid (gb_grow (gb_alloc HG.out (.cells #[.bool false] 4)) hgrow4 (fun j hj => (HO.out.lt j hj).1))
        clear hown4 hgrow4 hF4
        go_wp2_with fail
        go_roundw
        case rel =>
          refine ⟨k + 1, by omega, by go_num, rfl, Hg4.out, ?_, ?_⟩
          · rw [hfn.out]; exact HF4.out
          · rw [htk.out]; have z := Ho4.out; rw [← List.map_take] at z; exact z
        case measure => simp [intOf]; omega
      · have hfn := hid (hr1.out hV)
        have e1 : (V != -2) = true := by simp [hV]
        rw [e1] at htk
        have e2 : (V == -2) = false := by simp [hV]
        clear hr1 hr2 hV
        go_wp2_with fail
        refine hA.out.mono ?_
        rintro e w3 ⟨rfl, rfl⟩
        clear hA
        go_wp2_with fail
        refine hGo.out.mono ?_
        rintro e w4 ⟨rfl, hF4, hg4⟩
        have O4 := HO.out.kept hg4 (owns_apart HO.out HF.out.row (by decide))
        have hz4 := hg4.size
        have G4 := hid (gb_over HG.out hg4 (Nat.le_succ _))
        have HF4 := hid hF4
        clear hGo hF4 hg4
        go_wp2_with (first
          | (at_builtin; refine wpList_append_fits _ rfl _ _ 66 rfl w.heap.size 4 iB 1 imBos iB_eq.out iB_s (kb + 1) k L.length (((Sc.keepD L).take k).map Value.bool) rfl (O4.alloc _) ⟨w4.heap.size, 0, none⟩ 1 1 [.bool true] rfl rfl ?c1 ?c2 (by omega) ?_)
          | fail)
        case c1 => exact new_cells _ 4 #[.bool true] _ rfl
        case c2 => intro u hu; simp at hu; subst hu; rfl
        intro w5 hown5 hgrow5
        have hF5 := (HF4.out.keep (gb_alloc (gb_refl w4 none) (.cells #[.bool true] 4))).kept hgrow5 (owns_blk (O4.alloc _) ((HF4.out.keep (gb_alloc (gb_refl w4 none) (.cells #[.bool true] 4))).blk) (by decide)) (by intro q; have := owns_apart (HF4.out.row) O4 (by decide); rcases this with z | z; cases z; exact z q)
        have HF5 := hid hF5
        have Ho5 := hid hown5
        have hOl := O4.lt
        have Hg5 := hid (gb_grow (gb_alloc G4.out (.cells #[.bool true] 4)) hgrow5 (fun j hj => (hOl j hj).1))
        clear hown5 hgrow5 hF5 O4 hOl
        go_wp2_with fail
        go_roundw
        case rel =>
          refine ⟨k + 1, by omega, by go_num, rfl, Hg5.out, ?_, ?_⟩
          · rw [hfn.out]; exact HF5.out
          · rw [htk.out]; have z := Ho5.out; rw [← List.map_take] at z; exact z
        case measure => simp [intOf]; omega
    · have hkk : k = L.length := by omega
      subst hkk
      have e1 : (Sc.keepD L).take L.length = Sc.keepD L := List.take_of_length_le (by simp [Sc.keepD])
      have hO2 := HO.out
      rw [e1] at hO2
      have hOn := hid (iOnly_any wr sa sc L (HI.out.keep hg) HS.out w.heap.size (kb + 1) L.length (Sc.keepD L) (by simp [Sc.keepD]) hO2)
      have hpd : Hid (Sc.passD L = Sc.only L (Sc.keepD L)) := rfl
      clear hown hg hF hO2 e1
      go_wp2_with fail
      refine hOn.out.mono ?_
      rintro e w3 ⟨v, rfl, hg3, ho3⟩
      have G3 := hid (gb_trans HG.out hg3)
      have O3 := hid (owns_base ho3 hz)
      clear hOn hg3 ho3
      go_wp2_with fail
      go_ret
      rw [hpd.out]
      exact ⟨_, rfl, G3.out, O3.out⟩
end Go.Proofs.Ytldongbimhngfaa
/- dropLoads: the program's walk. -/
namespace Go.Proofs.Ytldongbimhngfaa
open Go.RowKit
set_option linter.unusedVariables false
set_option linter.unusedSimpArgs false

theorem keepL_at (L : List Sc.In) (k : Nat) (h : k < L.length) : (Sc.keepL L)[k]? = some (L[k].op != 1 || Sc.fact Sc.psL L k != L[k].k) := by
  simp [Sc.keepL, h]
set_option maxRecDepth 100000 in
set_option maxHeartbeats 8000000 in
theorem iDropL_any (w : World) (sa : Option Addr) (sc : Nat) (L : List Sc.In) (hI : InsAt w sa L) (hs : SoundList L) :
    Calls Try.prog 83 #[.slice sa L.length sc] w fun e w' => ∃ v, e = .returned v ∧ w.grownBy w' none ∧ w'.ownsRow w.heap.size 46 4 v (Sc.passL L).length (insCells (Sc.passL L)) := by
  obtain ⟨iB, iB_e, iB_z, iB_s, iB_b⟩ := imBo_ex
  have iB_eq := hid iB_e
  have hn := hs.1.1
  have hp := hs.2.1
  have HI := hid hI
  have HS := hid hs
  have hFO := hid (iFactsOf_any w L.length Sc.psL hp hn)
  have hfir : Sc.psL.first = -1 := rfl
  rw [hfir] at hFO
  clear iB_e hI hs hfir
  go_enter Try.func83, Try.ntmps83
  go_wp2_with fail
  refine hFO.out.mono ?_
  rintro e w1 ⟨rfl, hg1, ho1, hlt1⟩
  have Hg1 := hid (gb_alloc hg1 (.cells #[.slice (some ⟨w.heap.size + 1, 0, none⟩) L.length L.length] 135))
  have F1 : Hid (FactsAt (w1.alloc (.cells #[.slice (some ⟨w.heap.size + 1, 0, none⟩) L.length L.length] 135)) w.heap.size w1.heap.size (w.heap.size + 1) L.length (Sc.facN Sc.psL L 0)) := ⟨by rw [facN_len], Blk.new _ _ _, ho1.alloc _⟩
  clear hFO hg1 ho1
  go_wp2_with (first
    | (at_make; refine wpList_make_own _ rfl _ _ 66 rfl w.heap.size 4 iB (.bool false) 1 imBos iB_eq.out iB_z iB_s _ _ _ L.length rfl rfl (by first | rfl | omega) (by rw [iB_b]; omega) (by unfold maxLen; omega) (by simp; omega) ?_)
    | fail)
  intro w2 hown2 hgrow2
  try simp only [World.size_alloc] at hown2
  have F2 := hid (F1.out.keep hgrow2)
  have G2 := hid (gb_trans Hg1.out hgrow2)
  have O2 := hid hown2
  clear hgrow2 hown2 F1 Hg1
  generalize w1.heap.size = kb at *
  go_wp2_with fail
  go_loopw [4, 5] (fun v i wr => ∃ (k : Nat), k ≤ L.length ∧ i = .int .i64 k ∧ v = .slice (some ⟨kb + 1, 0, none⟩) k L.length ∧ w.grownBy wr none ∧ FactsAt wr w.heap.size kb (w.heap.size + 1) L.length (Sc.facN Sc.psL L k) ∧ wr.ownsRow w.heap.size 4 1 (.slice (some ⟨kb + 1, 0, none⟩) k L.length) k (((Sc.keepL L).take k).map Value.bool)) (fun v i wr => L.length - (intOf i).toNat)
  case atStart => exact ⟨0, Nat.zero_le _, rfl, rfl, G2.out, F2.out, O2.out⟩
  case round =>
    obtain ⟨k, hkn, rfl, rfl, hg, hF, hown⟩ := hrel
    have HG := hid hg
    have hz := hg.size
    have hgl := (hF.row.lt (w.heap.size + 1) rfl).2
    clear O2 G2 F2
    by_cases hlt : k < L.length
    · have hlt' : (k : Int) < (L.length : Int) := by omega
      obtain ⟨b, off, rfl, hb, hcell⟩ := (HI.out.keep hg) k hlt
      have t0 := hcell 0 (by omega)
      have t1 := hcell 1 (by omega)
      have t2 := hcell 2 (by omega)
      have t3 := hcell 3 (by omega)
      have Ga := gb_alloc (gb_refl wr none) (.cells (inCells L[k]) 46)
      have HA := hid (gb_alloc HG.out (.cells (inCells L[k]) 46))
      have BX := hid (Blk.new wr 46 (inCells L[k]))
      have HFa := hid (hF.keep Ga)
      have HOa := hid (hown.alloc (.cells (inCells L[k]) 46))
      have hA := hid (fAt_any _ w.heap.size kb (w.heap.size + 1) L.length _ HFa.out k hlt hn)
      rw [fact_now Sc.psL L k (by omega)] at hA
      have htk : Hid (((Sc.keepL L).take (k + 1)).map Value.bool = ((Sc.keepL L).take k).map Value.bool ++ [.bool (L[k].op != 1 || Sc.fact Sc.psL L k != L[k].k)]) := by
        unfold Hid; rw [take_one _ _ _ (keepL_at L k hlt)]; simp
      have hr1 := hid (facN_reach Sc.psL L k hlt)
      have hr2 := hid (facN_none Sc.psL L k hlt)
      have hk0 : 0 ≤ L[k].k := by have := HS.out.1.2 k hlt; unfold InRng at this; omega
      have hre : Sc.psL.re L[k] (Sc.fact Sc.psL L k) = L[k] := rfl
      rw [hre] at hr1
      have hbt : Sc.psL.bt L[k] (Sc.fact Sc.psL L k) = Sc.wordB L[k] (Sc.fact Sc.psL L k) := rfl
      have hot : Sc.psL.ot L[k] (Sc.fact Sc.psL L k) = Sc.wordB L[k] (Sc.fact Sc.psL L k) := rfl
      rw [hbt, hot] at hr1
      have hWd := hid (fun w => iWord_any w L[k] (Sc.fact Sc.psL L k))
      have hGo := hid (fun W (hF : FactsAt W w.heap.size kb (w.heap.size + 1) L.length (Sc.facN Sc.psL L k)) hgl => fGoOn_any W w.heap.size kb (w.heap.size + 1) L.length _ hF hgl k L[k] (HS.out.1.2 k hlt) hn (HS.out.tos_in k hlt) (Sc.wordB L[k] (Sc.fact Sc.psL L k)) (Sc.wordB L[k] (Sc.fact Sc.psL L k)))
      generalize Sc.wordB L[k] (Sc.fact Sc.psL L k) = WD at *
      generalize Sc.fact Sc.psL L k = V at *
      clear hg hF hown hcell hre hbt hot Ga
      have hxs : wr.heap.size < (wr.alloc (.cells (inCells L[k]) 46)).heap.size := by simp
      generalize L[k] = X at *
      obtain ⟨op, t, f, kk⟩ := X
      simp only at hk0 htk
      simp only [inCells] at hGo hWd HA BX HFa HOa hA hxs
      simp [inCells] at t0 t1 t2 t3
      by_cases hV : V = -2
      · have hfn := hid (hr2.out hV)
        have e2 : (V == -2) = true := by simp [hV]
        have eK : (V == kk) = false := by rw [beq_eq_false_iff_ne]; omega
        have eK2 : (V != kk) = true := by simp [bne, eK]
        clear hr1 hr2 hGo hWd BX hV
        by_cases h1 : op = 1
        · subst h1
          rw [eK2] at htk
          have ez : ((1 : Int) != 1 || true) = true := rfl
          rw [ez] at htk
          go_wp2_with fail
          refine hA.out.mono ?_
          rintro e w3 ⟨rfl, rfl⟩
          clear hA
          go_wp2_with (first
            | (at_builtin; refine wpList_append_fits _ rfl _ _ 66 rfl w.heap.size 4 iB 1 imBos iB_eq.out iB_s (kb + 1) k L.length (((Sc.keepL L).take k).map Value.bool) rfl (HOa.out.alloc _) ⟨_, 0, none⟩ 1 1 [.bool true] rfl rfl ?c1 ?c2 (by omega) ?_)
            | fail)
          case c1 => exact new_cells _ 4 #[.bool true] _ (by simp)
          case c2 => intro u hu; simp at hu; subst hu; rfl
          intro w9 hown9 hgrow9
          have hF9 := (HFa.out.keep (gb_alloc (gb_refl _ none) (.cells #[.bool true] 4))).kept hgrow9 (owns_blk (HOa.out.alloc _) ((HFa.out.keep (gb_alloc (gb_refl _ none) (.cells #[.bool true] 4))).blk) (by decide)) (by intro q; have := owns_apart (HFa.out.row) (HOa.out) (by decide); rcases this with z | z; cases z; exact z q)
          have HF9 := hid hF9
          have Ho9 := hid hown9
          have Hg9 := hid (gb_grow (gb_alloc HA.out (.cells #[.bool true] 4)) hgrow9 (fun j hj => (HOa.out.lt j hj).1))
          clear hown9 hgrow9 hF9
          go_wp2_with fail
          go_roundw
          case rel =>
            refine ⟨k + 1, by omega, by go_num, rfl, Hg9.out, ?_, ?_⟩
            · rw [hfn.out]; exact HF9.out
            · rw [htk.out]; have z := Ho9.out; rw [← List.map_take] at z; exact z
          case measure => simp [intOf]; omega
        · have e1 : (op == 1) = false := by simp [h1]
          have e1' : (op != 1) = true := by simp [h1]
          rw [e1'] at htk
          have ez : (true || V != kk) = true := rfl
          rw [ez] at htk
          clear h1
          go_wp2_with fail
          refine hA.out.mono ?_
          rintro e w3 ⟨rfl, rfl⟩
          clear hA
          go_wp2_with (first
            | (at_builtin; refine wpList_append_fits _ rfl _ _ 66 rfl w.heap.size 4 iB 1 imBos iB_eq.out iB_s (kb + 1) k L.length (((Sc.keepL L).take k).map Value.bool) rfl (HOa.out.alloc _) ⟨_, 0, none⟩ 1 1 [.bool true] rfl rfl ?c1 ?c2 (by omega) ?_)
            | fail)
          case c1 => exact new_cells _ 4 #[.bool true] _ (by simp)
          case c2 => intro u hu; simp at hu; subst hu; rfl
          intro w9 hown9 hgrow9
          have hF9 := (HFa.out.keep (gb_alloc (gb_refl _ none) (.cells #[.bool true] 4))).kept hgrow9 (owns_blk (HOa.out.alloc _) ((HFa.out.keep (gb_alloc (gb_refl _ none) (.cells #[.bool true] 4))).blk) (by decide)) (by intro q; have := owns_apart (HFa.out.row) (HOa.out) (by decide); rcases this with z | z; cases z; exact z q)
          have HF9 := hid hF9
          have Ho9 := hid hown9
          have Hg9 := hid (gb_grow (gb_alloc HA.out (.cells #[.bool true] 4)) hgrow9 (fun j hj => (HOa.out.lt j hj).1))
          clear hown9 hgrow9 hF9
          go_wp2_with fail
          go_roundw
          case rel =>
            refine ⟨k + 1, by omega, by go_num, rfl, Hg9.out, ?_, ?_⟩
            · rw [hfn.out]; exact HF9.out
            · rw [htk.out]; have z := Ho9.out; rw [← List.map_take] at z; exact z
          case measure => simp [intOf]; omega
      · have hfn := hid (hr1.out hV)
        have e2 : (V == -2) = false := by simp [hV]
        clear hr1 hr2
        by_cases h1 : op = 1
        · subst h1
          by_cases hK : V = kk
          · subst hK
            have ez : ((1 : Int) != 1 || V != V) = false := by simp
            rw [ez] at htk
            have eK : (V == V) = true := by simp
            go_wp2_with fail
            refine hA.out.mono ?_
            rintro e w3 ⟨rfl, rfl⟩
            clear hA
            go_wp2_with fail
            refine (hWd.out _).mono ?_
            rintro e w4 ⟨rfl, hg4⟩
            have bx4 := BX.out.keep hg4 (by simp)
            have x0 := bx4.cell 0
            have x1 := bx4.cell 1
            have x2 := bx4.cell 2
            have x3 := bx4.cell 3
            simp at x0 x1 x2 x3
            have hF4 := HFa.out.keep hg4
            have hGo4 := hid (hGo.out w4 hF4 (hF4.row.lt (w.heap.size + 1) rfl).2)
            have HF4 := hid hF4
            have HO4 := hid (kept_none HOa.out hg4)
            have HG4 := hid (gb_trans HA.out hg4)
            have BX4 := hid bx4
            have hl4 := bx4.lt
            clear hGo hWd hg4 bx4 hF4
            go_wp2_with fail
            refine hGo4.out.mono ?_
            rintro e w5 ⟨rfl, hF5, hg5⟩
            have bx5 := BX4.out.keep hg5 (by simp; omega)
            have y0 := bx5.cell 0
            have y3 := bx5.cell 3
            have hl5 := bx5.lt
            simp at y0 y3
            have HF5 := hid hF5
            have HO5 := hid (HO4.out.kept hg5 (owns_apart HO4.out HF4.out.row (by decide)))
            have HG5 := hid (gb_over HG4.out hg5 (Nat.le_succ _))
            clear hGo4 hF5 hg5 bx5 BX4 x0 x1 x2 x3
            go_wp2_with (first
              | (at_builtin; refine wpList_append_fits _ rfl _ _ 66 rfl w.heap.size 4 iB 1 imBos iB_eq.out iB_s (kb + 1) k L.length (((Sc.keepL L).take k).map Value.bool) rfl (HO5.out.alloc _) ⟨_, 0, none⟩ 1 1 [.bool false] rfl rfl ?c1 ?c2 (by omega) ?_)
              | fail)
            case c1 => exact new_cells _ 4 #[.bool false] _ (by simp)
            case c2 => intro u hu; simp at hu; subst hu; rfl
            intro w9 hown9 hgrow9
            have hF9 := (HF5.out.keep (gb_alloc (gb_refl _ none) (.cells #[.bool false] 4))).kept hgrow9 (owns_blk (HO5.out.alloc _) ((HF5.out.keep (gb_alloc (gb_refl _ none) (.cells #[.bool false] 4))).blk) (by decide)) (by intro q; have := owns_apart (HF5.out.row) (HO5.out) (by decide); rcases this with z | z; cases z; exact z q)
            have HF9 := hid hF9
            have Ho9 := hid hown9
            have Hg9 := hid (gb_grow (gb_alloc HG5.out (.cells #[.bool false] 4)) hgrow9 (fun j hj => (HO5.out.lt j hj).1))
            clear hown9 hgrow9 hF9
            go_wp2_with fail
            go_roundw
            case rel =>
              refine ⟨k + 1, by omega, by go_num, rfl, Hg9.out, ?_, ?_⟩
              · rw [hfn.out]; exact HF9.out
              · rw [htk.out]; have z := Ho9.out; rw [← List.map_take] at z; exact z
            case measure => simp [intOf]; omega
          · have eK : (V == kk) = false := by simp [hK]
            have ez : ((1 : Int) != 1 || V != kk) = true := by simp [hK]
            rw [ez] at htk
            have eK2 : (V != kk) = true := by simp [hK]
            clear hK
            go_wp2_with fail
            refine hA.out.mono ?_
            rintro e w3 ⟨rfl, rfl⟩
            clear hA
            go_wp2_with fail
            refine (hWd.out _).mono ?_
            rintro e w4 ⟨rfl, hg4⟩
            have bx4 := BX.out.keep hg4 (by simp)
            have x0 := bx4.cell 0
            have x1 := bx4.cell 1
            have x2 := bx4.cell 2
            have x3 := bx4.cell 3
            simp at x0 x1 x2 x3
            have hF4 := HFa.out.keep hg4
            have hGo4 := hid (hGo.out w4 hF4 (hF4.row.lt (w.heap.size + 1) rfl).2)
            have HF4 := hid hF4
            have HO4 := hid (kept_none HOa.out hg4)
            have HG4 := hid (gb_trans HA.out hg4)
            have BX4 := hid bx4
            have hl4 := bx4.lt
            clear hGo hWd hg4 bx4 hF4
            go_wp2_with fail
            refine hGo4.out.mono ?_
            rintro e w5 ⟨rfl, hF5, hg5⟩
            have bx5 := BX4.out.keep hg5 (by simp; omega)
            have y0 := bx5.cell 0
            have y3 := bx5.cell 3
            have hl5 := bx5.lt
            simp at y0 y3
            have HF5 := hid hF5
            have HO5 := hid (HO4.out.kept hg5 (owns_apart HO4.out HF4.out.row (by decide)))
            have HG5 := hid (gb_over HG4.out hg5 (Nat.le_succ _))
            clear hGo4 hF5 hg5 bx5 BX4 x0 x1 x2 x3
            go_wp2_with (first
              | (at_builtin; refine wpList_append_fits _ rfl _ _ 66 rfl w.heap.size 4 iB 1 imBos iB_eq.out iB_s (kb + 1) k L.length (((Sc.keepL L).take k).map Value.bool) rfl (HO5.out.alloc _) ⟨_, 0, none⟩ 1 1 [.bool true] rfl rfl ?c1 ?c2 (by omega) ?_)
              | fail)
            case c1 => exact new_cells _ 4 #[.bool true] _ (by simp)
            case c2 => intro u hu; simp at hu; subst hu; rfl
            intro w9 hown9 hgrow9
            have hF9 := (HF5.out.keep (gb_alloc (gb_refl _ none) (.cells #[.bool true] 4))).kept hgrow9 (owns_blk (HO5.out.alloc _) ((HF5.out.keep (gb_alloc (gb_refl _ none) (.cells #[.bool true] 4))).blk) (by decide)) (by intro q; have := owns_apart (HF5.out.row) (HO5.out) (by decide); rcases this with z | z; cases z; exact z q)
            have HF9 := hid hF9
            have Ho9 := hid hown9
            have Hg9 := hid (gb_grow (gb_alloc HG5.out (.cells #[.bool true] 4)) hgrow9 (fun j hj => (HO5.out.lt j hj).1))
            clear hown9 hgrow9 hF9
            go_wp2_with fail
            go_roundw
            case rel =>
              refine ⟨k + 1, by omega, by go_num, rfl, Hg9.out, ?_, ?_⟩
              · rw [hfn.out]; exact HF9.out
              · rw [htk.out]; have z := Ho9.out; rw [← List.map_take] at z; exact z
            case measure => simp [intOf]; omega
        · have e1 : (op == 1) = false := by simp [h1]
          have e1' : (op != 1) = true := by simp [h1]
          have ez : (op != 1 || V != kk) = true := by simp [h1]
          rw [ez] at htk
          clear h1 ez
          go_wp2_with fail
          refine hA.out.mono ?_
          rintro e w3 ⟨rfl, rfl⟩
          clear hA
          go_wp2_with fail
          refine (hWd.out _).mono ?_
          rintro e w4 ⟨rfl, hg4⟩
          have bx4 := BX.out.keep hg4 (by simp)
          have x0 := bx4.cell 0
          have x1 := bx4.cell 1
          have x2 := bx4.cell 2
          have x3 := bx4.cell 3
          simp at x0 x1 x2 x3
          have hF4 := HFa.out.keep hg4
          have hGo4 := hid (hGo.out w4 hF4 (hF4.row.lt (w.heap.size + 1) rfl).2)
          have HF4 := hid hF4
          have HO4 := hid (kept_none HOa.out hg4)
          have HG4 := hid (gb_trans HA.out hg4)
          have BX4 := hid bx4
          have hl4 := bx4.lt
          clear hGo hWd hg4 bx4 hF4
          go_wp2_with fail
          refine hGo4.out.mono ?_
          rintro e w5 ⟨rfl, hF5, hg5⟩
          have bx5 := BX4.out.keep hg5 (by simp; omega)
          have y0 := bx5.cell 0
          have y3 := bx5.cell 3
          have hl5 := bx5.lt
          simp at y0 y3
          have HF5 := hid hF5
          have HO5 := hid (HO4.out.kept hg5 (owns_apart HO4.out HF4.out.row (by decide)))
          have HG5 := hid (gb_over HG4.out hg5 (Nat.le_succ _))
          clear hGo4 hF5 hg5 bx5 BX4 x0 x1 x2 x3
          go_wp2_with (first
            | (at_builtin; refine wpList_append_fits _ rfl _ _ 66 rfl w.heap.size 4 iB 1 imBos iB_eq.out iB_s (kb + 1) k L.length (((Sc.keepL L).take k).map Value.bool) rfl (HO5.out.alloc _) ⟨_, 0, none⟩ 1 1 [.bool true] rfl rfl ?c1 ?c2 (by omega) ?_)
            | fail)
          case c1 => exact new_cells _ 4 #[.bool true] _ (by simp)
          case c2 => intro u hu; simp at hu; subst hu; rfl
          intro w9 hown9 hgrow9
          have hF9 := (HF5.out.keep (gb_alloc (gb_refl _ none) (.cells #[.bool true] 4))).kept hgrow9 (owns_blk (HO5.out.alloc _) ((HF5.out.keep (gb_alloc (gb_refl _ none) (.cells #[.bool true] 4))).blk) (by decide)) (by intro q; have := owns_apart (HF5.out.row) (HO5.out) (by decide); rcases this with z | z; cases z; exact z q)
          have HF9 := hid hF9
          have Ho9 := hid hown9
          have Hg9 := hid (gb_grow (gb_alloc HG5.out (.cells #[.bool true] 4)) hgrow9 (fun j hj => (HO5.out.lt j hj).1))
          clear hown9 hgrow9 hF9
          go_wp2_with fail
          go_roundw
          case rel =>
            refine ⟨k + 1, by omega, by go_num, rfl, Hg9.out, ?_, ?_⟩
            · rw [hfn.out]; exact HF9.out
            · rw [htk.out]; have z := Ho9.out; rw [← List.map_take] at z; exact z
          case measure => simp [intOf]; omega
    · have hkk : k = L.length := by omega
      subst hkk
      have e1 : (Sc.keepL L).take L.length = Sc.keepL L := List.take_of_length_le (by simp [Sc.keepL])
      have hO2 := hown
      rw [e1] at hO2
      have hOn := hid (iOnly_any wr sa sc L (HI.out.keep hg) HS.out w.heap.size (kb + 1) L.length (Sc.keepL L) (by simp [Sc.keepL]) hO2)
      have hpd : Hid (Sc.passL L = Sc.only L (Sc.keepL L)) := rfl
      clear hown hg hF hO2 e1
      go_wp2_with fail
      refine hOn.out.mono ?_
      rintro e w3 ⟨v, rfl, hg3, ho3⟩
      have G3 := hid (gb_trans HG.out hg3)
      have O3 := hid (owns_base ho3 hz)
      clear hOn hg3 ho3
      go_wp2_with fail
      go_ret
      rw [hpd.out]
      exact ⟨_, rfl, G3.out, O3.out⟩
end Go.Proofs.Ytldongbimhngfaa
/- settle: the program's walk. -/
namespace Go.Proofs.Ytldongbimhngfaa
open Go.RowKit
set_option linter.unusedVariables false
set_option linter.unusedSimpArgs false

theorem passK_at (L : List Sc.In) (k : Nat) (h : k < L.length) : (Sc.passK L)[k]? = some (Sc.psK.re L[k] (Sc.fact Sc.psK L k)) := by
  have h2 : k < (Sc.passK L).length := by unfold Sc.passK; rw [put_len]; exact h
  rw [List.getElem?_eq_getElem h2]
  exact congrArg some (put_at Sc.psK L k h)
theorem re_ok (x : Sc.In) (a : Int) (hx : DoOk x) (ha : -1 ≤ a ∧ a ≤ 65535) : (Sc.psK.re x a).op = 8 → (Sc.psK.re x a).k ≠ 0 := by
  rcases re_op x a with h | ⟨_, _, h⟩ | ⟨_, _, h⟩
  · rw [h]; exact hx.2.2.2.1
  · rw [h]; intro q; cases q
  · rw [h]; intro q; cases q
theorem re_ok9 (x : Sc.In) (a : Int) (hx : DoOk x) (ha : -1 ≤ a ∧ a ≤ 65535) : (Sc.psK.re x a).op = 9 → (Sc.psK.re x a).k ≤ 15 := by
  rcases re_op x a with h | ⟨_, _, h⟩ | ⟨_, _, h⟩
  · rw [h]; exact hx.2.2.2.2
  · rw [h]; intro q; cases q
  · rw [h]; intro q; cases q
theorem gb_set4 {a : World} (g o1 o2 o3 o4 : Nat) (v1 v2 v3 v4 : Value) : a.grownBy ((((a.setCell ⟨g, o1, none⟩ v1).setCell ⟨g, o2, none⟩ v2).setCell ⟨g, o3, none⟩ v3).setCell ⟨g, o4, none⟩ v4) (some g) := gb_set (gb_set (gb_set (gb_set (gb_refl _ _) _ _) _ _) _ _) _ _
set_option maxRecDepth 100000 in
set_option maxHeartbeats 8000000 in
theorem iSettle_any (w : World) (sa : Option Addr) (sc : Nat) (L : List Sc.In) (hI : InsAt w sa L) (hs : SoundList L) :
    Calls Try.prog 84 #[.slice sa L.length sc] w fun e w' => ∃ v, e = .returned v ∧ w.grownBy w' none ∧ w'.ownsRow w.heap.size 46 4 v (Sc.passK L).length (insCells (Sc.passK L)) := by
  obtain ⟨iI, iI_e, iI_z, iI_s, iI_b⟩ := iIn_ex
  have iI_eq := hid iI_e
  have hn := hs.1.1
  have hp := hs.2.1
  have HI := hid hI
  have HS := hid hs
  have HR := hid (psK_facts hs).2
  have hFO := hid (iFactsOf_any w L.length Sc.psK hp hn)
  have hfir : Sc.psK.first = 0 := rfl
  rw [hfir] at hFO
  clear iI_e hI hs hfir
  go_enter Try.func84, Try.ntmps84
  go_wp2_with fail
  refine hFO.out.mono ?_
  rintro e w1 ⟨rfl, hg1, ho1, hlt1⟩
  have Hg1 := hid (gb_alloc hg1 (.cells #[.slice (some ⟨w.heap.size + 1, 0, none⟩) L.length L.length] 135))
  have F1 : Hid (FactsAt (w1.alloc (.cells #[.slice (some ⟨w.heap.size + 1, 0, none⟩) L.length L.length] 135)) w.heap.size w1.heap.size (w.heap.size + 1) L.length (Sc.facN Sc.psK L 0)) := ⟨by rw [facN_len], Blk.new _ _ _, ho1.alloc _⟩
  clear hFO hg1 ho1
  go_wp2_with (first
    | (at_make; refine wpList_make_own _ rfl _ _ 39 rfl w.heap.size 46 iI zIn 4 uIn iI_eq.out iI_z iI_s _ _ _ L.length rfl rfl (by first | rfl | omega) (by rw [iI_b]; omega) (by unfold maxLen; omega) (by simp; omega) ?_)
    | fail)
  intro w2 hown2 hgrow2
  try simp only [World.size_alloc] at hown2
  have F2 := hid (F1.out.keep hgrow2)
  have G2 := hid (gb_trans Hg1.out hgrow2)
  have O2 := hid hown2
  clear hgrow2 hown2 F1 Hg1
  generalize w1.heap.size = kb at *
  go_wp2_with fail
  go_loopw [4, 5] (fun v i wr => ∃ (k : Nat), k ≤ L.length ∧ i = .int .i64 k ∧ v = .slice (some ⟨kb + 1, 0, none⟩) k L.length ∧ w.grownBy wr none ∧ FactsAt wr w.heap.size kb (w.heap.size + 1) L.length (Sc.facN Sc.psK L k) ∧ wr.ownsRow w.heap.size 46 4 (.slice (some ⟨kb + 1, 0, none⟩) k L.length) k (insCells ((Sc.passK L).take k))) (fun v i wr => L.length - (intOf i).toNat)
  case atStart => exact ⟨0, Nat.zero_le _, rfl, rfl, G2.out, F2.out, O2.out⟩
  case round =>
    obtain ⟨k, hkn, rfl, rfl, hg, hF, hown⟩ := hrel
    have HG := hid hg
    have hz := hg.size
    have hgl := (hF.row.lt (w.heap.size + 1) rfl).2
    have hkl := (hown.lt (kb + 1) rfl).2
    clear O2 G2 F2
    by_cases hlt : k < L.length
    · have hlt' : (k : Int) < (L.length : Int) := by omega
      obtain ⟨b, off, rfl, hb, hcell⟩ := (HI.out.keep hg) k hlt
      have t0 := hcell 0 (by omega)
      have t1 := hcell 1 (by omega)
      have t2 := hcell 2 (by omega)
      have t3 := hcell 3 (by omega)
      have Ga := gb_alloc (gb_refl wr none) (.cells (inCells L[k]) 46)
      have HA := hid (gb_alloc HG.out (.cells (inCells L[k]) 46))
      have BX := hid (Blk.new wr 46 (inCells L[k]))
      have HFa := hid (hF.keep Ga)
      have HOa := hid (hown.alloc (.cells (inCells L[k]) 46))
      have hA := hid (fAt_any _ w.heap.size kb (w.heap.size + 1) L.length _ HFa.out k hlt hn)
      rw [fact_now Sc.psK L k (by omega)] at hA
      have htk : Hid (insCells ((Sc.passK L).take (k + 1)) = insCells ((Sc.passK L).take k) ++ (inCells (Sc.psK.re L[k] (Sc.fact Sc.psK L k))).toList) := by
        unfold Hid; rw [take_one _ _ _ (passK_at L k hlt), insCells_snoc]
      have hr1 := hid (facN_reach Sc.psK L k hlt)
      have hr2 := hid (facN_none Sc.psK L k hlt)
      have hrg := HR.out k
      have hxr := HS.out.1.2 k hlt
      have hxd := HS.out.doOk k hlt
      have htos := HS.out.tos_in k hlt
      have hre0 : Hid (¬ 0 ≤ Sc.fact Sc.psK L k → Sc.psK.re L[k] (Sc.fact Sc.psK L k) = L[k]) := fun h => by show (if _ then _ else _) = _; rw [if_neg h]
      have hre1 : Hid (0 ≤ Sc.fact Sc.psK L k → Sc.psK.re L[k] (Sc.fact Sc.psK L k) = Sc.settledB L[k] (Sc.fact Sc.psK L k)) := fun h => by show (if _ then _ else _) = _; rw [if_pos h]
      have hSt := hid (fun w (h1 : 0 ≤ Sc.fact Sc.psK L k) (h2 : Sc.fact Sc.psK L k ≤ 65535) => iSettled_any w L[k] (Sc.fact Sc.psK L k) h1 h2 (by unfold InRng at hxr; omega) (by unfold InRng at hxr; omega))
      generalize Sc.fact Sc.psK L k = V at *
      clear hg hF hown hcell Ga
      have hxs : wr.heap.size < (wr.alloc (.cells (inCells L[k]) 46)).heap.size := by simp
      by_cases hV : V = -2
      · have hfn := hid (hr2.out hV)
        have e2 : (V == -2) = true := by simp [hV]
        have e0 : ¬ 0 ≤ V := by omega
        rw [hre0.out e0] at htk
        clear hr1 hr2 hSt BX hV hre0 hre1 hrg hxr hxd htos
        generalize L[k] = X at *
        obtain ⟨op, t, f, kk⟩ := X
        simp only [inCells] at HA HFa HOa hA hxs
        simp [inCells] at t0 t1 t2 t3
        go_wp2_with fail
        refine hA.out.mono ?_
        rintro e w3 ⟨rfl, rfl⟩
        clear hA
        go_wp2_with (first
          | (at_builtin; refine wpList_append_fits _ rfl _ _ 39 rfl w.heap.size 46 iI 4 uIn iI_eq.out iI_s (kb + 1) k L.length (insCells ((Sc.passK L).take k)) rfl (HOa.out.alloc _) ⟨_, 0, none⟩ 1 1 [.int .i64 op, .int .i64 t, .int .i64 f, .int .i64 kk] rfl rfl ?c1 ?c2 (by omega) ?_)
          | fail)
        case c1 => exact new_cells _ 46 #[.int .i64 op, .int .i64 t, .int .i64 f, .int .i64 kk] _ (by simp)
        case c2 => intro u hu; simp at hu; rcases hu with rfl | rfl | rfl | rfl <;> rfl
        intro w9 hown9 hgrow9
        have hF9 := (HFa.out.keep (gb_alloc (gb_refl _ none) (.cells #[.int .i64 op, .int .i64 t, .int .i64 f, .int .i64 kk] 46))).kept hgrow9 (owns_blk (HOa.out.alloc _) ((HFa.out.keep (gb_alloc (gb_refl _ none) (.cells #[.int .i64 op, .int .i64 t, .int .i64 f, .int .i64 kk] 46))).blk) (by decide)) (by intro q; have := owns_apart (HFa.out.row) (HOa.out) (by decide); rcases this with z | z; cases z; exact z q)
        have HF9 := hid hF9
        have Ho9 := hid hown9
        have Hg9 := hid (gb_grow (gb_alloc HA.out (.cells #[.int .i64 op, .int .i64 t, .int .i64 f, .int .i64 kk] 46)) hgrow9 (fun j hj => (HOa.out.lt j hj).1))
        clear hown9 hgrow9 hF9
        go_wp2_with fail
        go_roundw
        case rel =>
          refine ⟨k + 1, by omega, by go_num, rfl, Hg9.out, ?_, ?_⟩
          · rw [hfn.out]; exact HF9.out
          · rw [htk.out]; exact Ho9.out
        case measure => simp [intOf]; omega
      · have hV2 : -1 ≤ V ∧ V ≤ 65535 := hrg.resolve_left hV
        have hfn := hid (hr1.out hV)
        have hbtd : Sc.psK.bt = fun x a => Sc.valueB x true a := rfl
        have hotd : Sc.psK.ot = fun x a => Sc.valueB x false a := rfl
        rw [hbtd, hotd] at hfn
        simp only at hfn
        have hyr := re_rng L[k] V hxr hV2
        have hBt := hid (fun w => iByT_any w (Sc.psK.re L[k] V) V hV2.2 (by unfold InRng at hyr; omega) (by unfold InRng at hyr; omega) (re_ok _ _ hxd hV2) (re_ok9 _ _ hxd hV2))
        have hOt := hid (fun w => iNumber_any w (Sc.psK.re L[k] V) V hV2.2 (by unfold InRng at hyr; omega) (by unfold InRng at hyr; omega) (re_ok _ _ hxd hV2) (re_ok9 _ _ hxd hV2))
        have hGo := hid (fun W (hF : FactsAt W w.heap.size kb (w.heap.size + 1) L.length (Sc.facN Sc.psK L k)) hgl => fGoOn_any W w.heap.size kb (w.heap.size + 1) L.length _ hF hgl k (Sc.psK.re L[k] V) hyr hn (fun to h => htos to (re_tos k L[k] V to h)) (Sc.valueB (Sc.psK.re L[k] V) true V) (Sc.valueB (Sc.psK.re L[k] V) false V))
        generalize Sc.valueB (Sc.psK.re L[k] V) true V = BT at *
        generalize Sc.valueB (Sc.psK.re L[k] V) false V = OT at *
        have e2 : (V == -2) = false := by simp [hV]
        clear hr1 hr2 hxr hxd htos hyr hbtd hotd
        by_cases h0 : 0 ≤ V
        · have hSt2 := hid (fun w => hSt.out w h0 hV2.2)
          rw [← hre1.out h0] at hSt2
          have hd0 : decide (0 ≤ V) = true := by simp [h0]
          clear hSt hre0 hre1 hrg
          generalize Sc.psK.re L[k] V = Y at *
          generalize L[k] = X at *
          obtain ⟨op, t, f, kk⟩ := X
          obtain ⟨yo, yt, yf, yk⟩ := Y
          simp only [inCells] at HA HFa HOa hA hxs hSt2 hBt hOt hGo BX htk
          simp [inCells] at t0 t1 t2 t3
          go_wp2_with fail
          refine hA.out.mono ?_
          rintro e w3 ⟨rfl, rfl⟩
          clear hA
          go_wp2_with fail
          refine (hSt2.out _).mono ?_
          rintro e w3 ⟨rfl, hg3⟩
          have bx3 := BX.out.keep hg3 (by simp)
          have hl3 := bx3.lt
          have x0 := bx3.cell 0
          have x1 := bx3.cell 1
          have x2 := bx3.cell 2
          have x3 := bx3.cell 3
          have xf := bx3.fz
          simp at x0 x1 x2 x3
          have hF3 := HFa.out.keep hg3
          have hO3 := kept_none HOa.out hg3
          have hq1 : kb ≠ wr.heap.size := by omega
          have hq2 : w.heap.size + 1 ≠ wr.heap.size := by omega
          have hs4 := gb_set4 (a := w3) wr.heap.size 0 1 2 3 (.int .i64 yo) (.int .i64 yt) (.int .i64 yf) (.int .i64 yk)
          have HFw := hid (hF3.kept hs4 (by simp; omega) (by simp; omega))
          have HOw := hid (hO3.kept hs4 (Or.inr (by simp [Value.ownBlock]; omega)))
          have HGw := hid (gb_grow (gb_trans HA.out hg3) hs4 (fun j hj => by cases hj; exact hz))
          have bxw := (((bx3.set 0 (.int .i64 yo)).set 1 (.int .i64 yt)).set 2 (.int .i64 yf)).set 3 (.int .i64 yk)
          have HBw := hid bxw
          clear hSt2 hg3 bx3 hF3 hO3 hs4 HFa HOa HA BX bxw
          go_wp2_with fail
          have bxw := HBw.out
          clear HBw
          generalize (((w3.setCell ⟨wr.heap.size, 0, none⟩ (.int .i64 yo)).setCell ⟨wr.heap.size, 1, none⟩ (.int .i64 yt)).setCell ⟨wr.heap.size, 2, none⟩ (.int .i64 yf)).setCell ⟨wr.heap.size, 3, none⟩ (.int .i64 yk) = W at *
          simp only [List.setIfInBounds_toArray, List.set_cons_zero, List.set_cons_succ] at bxw
          have BXw := hid bxw
          clear x0 x1 x2 x3 xf bxw
          refine (hBt.out _).mono ?_
          rintro e w4 ⟨rfl, hg4⟩
          have bx4 := BXw.out.keep hg4 (by simp)
          have hl4 := bx4.lt
          have x0 := bx4.cell 0
          have x1 := bx4.cell 1
          have x2 := bx4.cell 2
          have x3 := bx4.cell 3
          simp at x0 x1 x2 x3
          have HF4 := hid (HFw.out.keep hg4)
          have HO4 := hid (kept_none HOw.out hg4)
          have HG4 := hid (gb_trans HGw.out hg4)
          have BX4 := hid bx4
          clear hBt hg4 bx4 HFw HOw HGw BXw
          go_wp2_with fail
          refine (hOt.out _).mono ?_
          rintro e w5 ⟨rfl, hg5⟩
          clear x0 x1 x2 x3
          have bx5 := BX4.out.keep hg5 (by simp)
          have hl5 := bx5.lt
          have x0 := bx5.cell 0
          have x1 := bx5.cell 1
          have x2 := bx5.cell 2
          have x3 := bx5.cell 3
          simp at x0 x1 x2 x3
          have HF5 := hid (HF4.out.keep hg5)
          have HO5 := hid (kept_none HO4.out hg5)
          have HG5 := hid (gb_trans HG4.out hg5)
          have BX5 := hid bx5
          have hGo5 := hid (hGo.out w5 HF5.out (HF5.out.row.lt (w.heap.size + 1) rfl).2)
          clear hOt hg5 bx5 HF4 HO4 HG4 BX4 hGo
          go_wp2_with fail
          refine hGo5.out.mono ?_
          rintro e w6 ⟨rfl, hF6, hg6⟩
          clear x0 x1 x2 x3
          have bx6 := BX5.out.keep hg6 (by simp; omega)
          have x0 := bx6.cell 0
          have x1 := bx6.cell 1
          have x2 := bx6.cell 2
          have x3 := bx6.cell 3
          have hl6 := bx6.lt
          simp at x0 x1 x2 x3
          have HF6 := hid hF6
          have HO6 := hid (HO5.out.kept hg6 (owns_apart HO5.out HF5.out.row (by decide)))
          have HG6 := hid (gb_over HG5.out hg6 (Nat.le_succ _))
          clear hGo5 hF6 hg6 bx6 BX5 HF5 HO5 HG5
          go_wp2_with (first
            | (at_builtin; refine wpList_append_fits _ rfl _ _ 39 rfl w.heap.size 46 iI 4 uIn iI_eq.out iI_s (kb + 1) k L.length (insCells ((Sc.passK L).take k)) rfl (HO6.out.alloc _) ⟨_, 0, none⟩ 1 1 [.int .i64 yo, .int .i64 yt, .int .i64 yf, .int .i64 yk] rfl rfl ?c1 ?c2 (by omega) ?_)
            | fail)
          case c1 => exact new_cells _ 46 #[.int .i64 yo, .int .i64 yt, .int .i64 yf, .int .i64 yk] _ (by simp)
          case c2 => intro u hu; simp at hu; rcases hu with rfl | rfl | rfl | rfl <;> rfl
          intro w9 hown9 hgrow9
          have hF9 := (HF6.out.keep (gb_alloc (gb_refl _ none) (.cells #[.int .i64 yo, .int .i64 yt, .int .i64 yf, .int .i64 yk] 46))).kept hgrow9 (owns_blk (HO6.out.alloc _) ((HF6.out.keep (gb_alloc (gb_refl _ none) (.cells #[.int .i64 yo, .int .i64 yt, .int .i64 yf, .int .i64 yk] 46))).blk) (by decide)) (by intro q; have := owns_apart (HF6.out.row) (HO6.out) (by decide); rcases this with z | z; cases z; exact z q)
          have HF9 := hid hF9
          have Ho9 := hid hown9
          have Hg9 := hid (gb_grow (gb_alloc HG6.out (.cells #[.int .i64 yo, .int .i64 yt, .int .i64 yf, .int .i64 yk] 46)) hgrow9 (fun j hj => (HO6.out.lt j hj).1))
          clear hown9 hgrow9 hF9
          go_wp2_with fail
          go_roundw
          case rel =>
            refine ⟨k + 1, by omega, by go_num, rfl, Hg9.out, ?_, ?_⟩
            · rw [hfn.out]; exact HF9.out
            · rw [htk.out]; exact Ho9.out
          case measure => simp [intOf]; omega
        · rw [hre0.out h0] at hfn htk hBt hOt hGo
          have hd0 : decide (0 ≤ V) = false := by simp [h0]
          clear hSt hre0 hre1 hrg
          have HFw := HFa
          have HOw := HOa
          have HGw := HA
          have BXw := BX
          clear HFa HOa HA BX
          generalize L[k] = X at *
          obtain ⟨yo, yt, yf, yk⟩ := X
          simp only [inCells] at HFw HOw HGw hA hxs hBt hOt hGo BXw htk
          simp [inCells] at t0 t1 t2 t3
          go_wp2_with fail
          refine hA.out.mono ?_
          rintro e w3 ⟨rfl, rfl⟩
          clear hA
          go_wp2_with fail
          refine (hBt.out _).mono ?_
          rintro e w4 ⟨rfl, hg4⟩
          have bx4 := BXw.out.keep hg4 (by simp)
          have hl4 := bx4.lt
          have x0 := bx4.cell 0
          have x1 := bx4.cell 1
          have x2 := bx4.cell 2
          have x3 := bx4.cell 3
          simp at x0 x1 x2 x3
          have HF4 := hid (HFw.out.keep hg4)
          have HO4 := hid (kept_none HOw.out hg4)
          have HG4 := hid (gb_trans HGw.out hg4)
          have BX4 := hid bx4
          clear hBt hg4 bx4 HFw HOw HGw BXw
          go_wp2_with fail
          refine (hOt.out _).mono ?_
          rintro e w5 ⟨rfl, hg5⟩
          clear x0 x1 x2 x3
          have bx5 := BX4.out.keep hg5 (by simp)
          have hl5 := bx5.lt
          have x0 := bx5.cell 0
          have x1 := bx5.cell 1
          have x2 := bx5.cell 2
          have x3 := bx5.cell 3
          simp at x0 x1 x2 x3
          have HF5 := hid (HF4.out.keep hg5)
          have HO5 := hid (kept_none HO4.out hg5)
          have HG5 := hid (gb_trans HG4.out hg5)
          have BX5 := hid bx5
          have hGo5 := hid (hGo.out w5 HF5.out (HF5.out.row.lt (w.heap.size + 1) rfl).2)
          clear hOt hg5 bx5 HF4 HO4 HG4 BX4 hGo
          go_wp2_with fail
          refine hGo5.out.mono ?_
          rintro e w6 ⟨rfl, hF6, hg6⟩
          clear x0 x1 x2 x3
          have bx6 := BX5.out.keep hg6 (by simp; omega)
          have x0 := bx6.cell 0
          have x1 := bx6.cell 1
          have x2 := bx6.cell 2
          have x3 := bx6.cell 3
          have hl6 := bx6.lt
          simp at x0 x1 x2 x3
          have HF6 := hid hF6
          have HO6 := hid (HO5.out.kept hg6 (owns_apart HO5.out HF5.out.row (by decide)))
          have HG6 := hid (gb_over HG5.out hg6 (Nat.le_succ _))
          clear hGo5 hF6 hg6 bx6 BX5 HF5 HO5 HG5
          go_wp2_with (first
            | (at_builtin; refine wpList_append_fits _ rfl _ _ 39 rfl w.heap.size 46 iI 4 uIn iI_eq.out iI_s (kb + 1) k L.length (insCells ((Sc.passK L).take k)) rfl (HO6.out.alloc _) ⟨_, 0, none⟩ 1 1 [.int .i64 yo, .int .i64 yt, .int .i64 yf, .int .i64 yk] rfl rfl ?c1 ?c2 (by omega) ?_)
            | fail)
          case c1 => exact new_cells _ 46 #[.int .i64 yo, .int .i64 yt, .int .i64 yf, .int .i64 yk] _ (by simp)
          case c2 => intro u hu; simp at hu; rcases hu with rfl | rfl | rfl | rfl <;> rfl
          intro w9 hown9 hgrow9
          have hF9 := (HF6.out.keep (gb_alloc (gb_refl _ none) (.cells #[.int .i64 yo, .int .i64 yt, .int .i64 yf, .int .i64 yk] 46))).kept hgrow9 (owns_blk (HO6.out.alloc _) ((HF6.out.keep (gb_alloc (gb_refl _ none) (.cells #[.int .i64 yo, .int .i64 yt, .int .i64 yf, .int .i64 yk] 46))).blk) (by decide)) (by intro q; have := owns_apart (HF6.out.row) (HO6.out) (by decide); rcases this with z | z; cases z; exact z q)
          have HF9 := hid hF9
          have Ho9 := hid hown9
          have Hg9 := hid (gb_grow (gb_alloc HG6.out (.cells #[.int .i64 yo, .int .i64 yt, .int .i64 yf, .int .i64 yk] 46)) hgrow9 (fun j hj => (HO6.out.lt j hj).1))
          clear hown9 hgrow9 hF9
          go_wp2_with fail
          go_roundw
          case rel =>
            refine ⟨k + 1, by omega, by go_num, rfl, Hg9.out, ?_, ?_⟩
            · rw [hfn.out]; exact HF9.out
            · rw [htk.out]; exact Ho9.out
          case measure => simp [intOf]; omega
    · have hkk : k = L.length := by omega
      have hlen : Hid ((Sc.passK L).length = L.length) := put_len _ _
      subst hkk
      have e1 : (Sc.passK L).take L.length = Sc.passK L := List.take_of_length_le (by rw [hlen.out]; exact Nat.le_refl _)
      rw [e1] at hown
      have HO := hid hown
      clear hown hg hF e1
      go_wp2_with fail
      go_ret
      refine ⟨_, rfl, HG.out, ?_⟩
      rw [hlen.out]
      exact HO.out
end Go.Proofs.Ytldongbimhngfaa
