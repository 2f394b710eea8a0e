/- clean: sievekeep's walk by 107. -/
import Derived.Test.YtldongbimhngfaaGKva
namespace Go.Proofs.Ytldongbimhngfaa
open Go.RowKit
set_option linter.unusedVariables false
set_option linter.unusedSimpArgs false

set_option maxRecDepth 100000 in
set_option maxHeartbeats 16000000 in
theorem kClean_107 (w : World) (sa : Option Addr) (sc : Nat) (L : List Sc.In) (hI : InsAt w sa L) (hs : SoundList L) (hok : DoneK L) :
    Calls Try.prog 35 #[.slice sa L.length sc, .int .u8 107] w fun e w' => e = .returned (.bool true) ∧ w.grownBy w' none := by
  obtain ⟨iI, iI_e, iI_z, iI_s, iI_b⟩ := imIt_ex
  have iI_eq := hid iI_e
  have hn := hs.1.1
  have hWk := hid (kWalked_any w sa sc L hI hs)
  have HI := hid hI
  have HS := hid hs
  have HK := hid hok
  clear iI_e hI hs hok
  go_enter Try.func35, Try.ntmps35
  go_wp2_with fail
  refine hWk.out.mono ?_
  rintro e w1 ⟨B, rfl, hg1, hBl, hBr, hB1⟩
  have G1 := hid hg1
  have O1 := hid hB1
  have HBr := hid hBr
  have hz1 := hg1.size
  clear hWk hg1 hB1 hBr
  go_wp2_with (first
    | (at_make; refine wpList_make_full _ rfl _ _ 22 rfl w.heap.size 3 iI (.int .i64 0) 1 imIts iI_eq.out iI_z iI_s _ _ _ _ (L.length + 16 + 1024) rfl rfl (by first | rfl | omega) (by first | rfl | omega) (by rw [iI_b]; omega) (by unfold maxLen; omega) (by omega) ?_)
    | fail)
  intro w2 hown2 hgrow2
  have e1 : (madeCells #[Value.int .i64 0] (L.length + 16 + 1024)).toList = (List.replicate (L.length + 16 + 1024) 0).map (Value.int .i64) := by
    rw [toList_madeCells_one]; simp
  rw [e1] at hown2
  have G2 := hid (gb_trans G1.out hgrow2)
  have O2 := hid (kept_none O1.out hgrow2)
  have D2 := hid hown2
  clear hgrow2 hown2 e1 G1 O1
  go_wp2_with fail
  generalize w1.heap.size = dg at *
  obtain ⟨m, hm⟩ : ∃ m, m = L.length + 16 + 1024 := ⟨_, rfl⟩
  have L0 := hid (led0 L m hm)
  rw [← hm] at D2 ⊢
  have hm1 : L.length + 1040 ≤ m := by omega
  have hm2 : m ≤ L.length + 1040 := by omega
  clear hm
  go_loopw [7] (fun i wr => ∃ (k : Nat) (D : List Int), k ≤ L.length ∧ i = .int .i64 k ∧ w.grownBy wr none ∧ Hid (LedOk L D k) ∧ wr.ownsRow w.heap.size 4 1 (.slice (some ⟨w.heap.size, 0, none⟩) (L.length + 1) (L.length + 1)) (L.length + 1) (B.map Value.bool) ∧ wr.ownsRow w.heap.size 3 1 (.slice (some ⟨dg, 0, none⟩) m m) m (D.map (Value.int .i64))) (fun i wr => L.length - (intOf i).toNat)
  case atStart => exact ⟨0, _, Nat.zero_le _, rfl, G2.out, L0, O2.out, D2.out⟩
  case round =>
    obtain ⟨k, D, hk, rfl, hg, hL, hown, hD⟩ := hrel
    have HG := hid hg
    have hz := hg.size
    have hgl := (hown.lt w.heap.size rfl).2
    have hdl := (hD.lt dg rfl).2
    have hdb := (hD.lt dg rfl).1
    have hDl1 : m ≤ D.length := by have := hL.out.len; omega
    have hDl2 : D.length ≤ m := by have := hL.out.len; omega
    have hgd : w.heap.size ≠ dg := by
      intro e
      rcases owns_apart hown hD (by decide) with q | q
      · cases q
      · exact q (by rw [e]; rfl)
    clear L0 O2 G2 D2
    by_cases hlt : k < L.length
    · have hlt' : (k : Int) < (L.length : Int) := by omega
      obtain ⟨bb, off, hsa, hb, hcell⟩ := (HI.out.keep hg) k hlt
      have t0 := hcell 0 (by omega)
      have t1 := hcell 1 (by omega)
      have t2 := hcell 2 (by omega)
      have t3 := hcell 3 (by omega)
      have HOr := hid hown
      have HDr := hid hD
      have HO := hid (hown.alloc (.cells (inCells L[k]) 46))
      have HD := hid (hD.alloc (.cells (inCells L[k]) 46))
      have HA := hid (gb_alloc HG.out (.cells (inCells L[k]) 46))
      have ck := own_boo hBl.symm hown k (by omega)
      have cD := hid (fun i (hi : i < m) => own_int (by omega) hD i (by omega))
      have cf := fun i => hD.frozenAt i
      have hin := hid (HS.out.tos_in k hlt)
      have hxr := HS.out.1.2 k hlt
      have hbr := HBr.out k
      have hrg := hid (fun j (hj : j < m) => hL.out.rng j (by omega))
      have hsk := hid (fun h => hL.out.skip h)
      have hs1 := hid (fun a h1 h2 => hL.out.one hlt a h1 h2)
      have hs2 := hid (fun a b h1 h2 h3 => hL.out.two hlt a b h1 h2 h3)
      have htos : Hid (Sc.tos k L[k] = if Sc.isTest L[k].op = true then [k + 1 + L[k].f.toNat, k + 1 + L[k].t.toNat] else if L[k].op = 10 then [k + 1 + L[k].k.toNat] else if L[k].op = 15 ∨ L[k].op = 16 then [] else [k + 1]) := rfl
      have hT := hid (fun w => kIsTest_any w L[k].op)
      have hsk2 : Hid (¬ (Sc.Rch L k ∧ (Sc.isTest L[k].op = true ∨ L[k].op = 10)) → LedOk L D (k + 1)) := fun h => hsk.out (fun hk2 => h)
      rw [htos.out] at hin hs1 hs2
      clear hg hcell hL hsk htos
      generalize L[k] = X at *
      obtain ⟨op, t, f, kk⟩ := X
      obtain ⟨x1, x2, x3, x4, x5, x6, x7, x8⟩ := hxr
      simp only at x1 x2 x3 x4 x5 x6 x7 x8 hT hs1 hs2 hsk2 hin
      obtain ⟨t, rfl⟩ := Int.eq_ofNat_of_zero_le x3
      obtain ⟨f, rfl⟩ := Int.eq_ofNat_of_zero_le x5
      obtain ⟨kk, rfl⟩ := Int.eq_ofNat_of_zero_le x7
      simp only [Int.toNat_natCast] at hs1 hs2 hin
      simp only [inCells] at HO HA HD
      simp [inCells] at t0 t1 t2 t3
      subst hsa
      clear hown hD
      by_cases ht : Sc.isTest op = true
      · rw [if_pos ht] at hs1 hs2 hin
        have h11 := test_ne op ht
        rw [ht] at hT
        have e10 : (op == 10) = false := by rw [beq_eq_false_iff_ne]; omega
        have i1 : k + 1 + t < L.length := hin.out _ (by simp)
        have i2 : k + 1 + f < L.length := hin.out _ (by simp)
        cases hkb : Sc.kp B k
        · rw [hkb] at ck hbr
          have hnr : ¬ Sc.Rch L k := fun h => by have := hbr.2 h; cases this
          clear ht h11
          have hN := hid (hsk2.out (fun q => hnr q.1))
          clear hsk2 hs1 hs2 hin hbr
          go_wp2_with fail
          refine (hT.out _).mono ?_
          rintro e w3 ⟨rfl, rfl⟩
          clear hT
          go_wp2_with fail
          go_roundw
          case rel => exact ⟨k + 1, D, by omega, by go_num, HA.out, hN, HO.out, HD.out⟩
          case measure => simp [intOf]; omega
        · rw [hkb] at ck
          clear ht h11
          by_cases htf : t = f
          · subst htf
            have hN := hid (hs2.out (k + 1 + t) (k + 1 + t) i1 i1 (fun to h => by simp at h; omega))
            have ca0 := cD.out (k + 1 + t) (by omega)
            have rg0 := hrg.out (k + 1 + t) (by omega)
            have na0 : ((k : Int) + 1 + (t : Int)).toNat = k + 1 + t := by omega
            have oa0 : (k : Int) + 1 + (t : Int) < (m : Int) := by omega
            have pa0 : (0 : Int) ≤ (k : Int) + 1 + (t : Int) := by omega
            have eI : Hid (inc (inc D (k + 1 + t)) (k + 1 + t) = (D.set (k + 1 + t) (Sc.fAt D (k + 1 + t) + 1)).set (k + 1 + t) (Sc.fAt D (k + 1 + t) + 1 + 1)) := by
              show (inc D (k + 1 + t)).set (k + 1 + t) (Sc.fAt (inc D (k + 1 + t)) (k + 1 + t) + 1) = _
              rw [inc_at, if_pos ⟨rfl, by omega⟩]; rfl
            rw [eI.out] at hN
            generalize Sc.fAt D (k + 1 + t) = va at *
            have HD2 := hid ((own_iset (own_iset HDr.out (k + 1 + t) (va + 1)) (k + 1 + t) (va + 1 + 1)).alloc (.cells #[.int .i64 op, .int .i64 t, .int .i64 t, .int .i64 kk] 46))
            have HO2 := hid ((owns_set (owns_set HOr.out (b := dg) (by simp [Value.ownBlock, hgd]) (k + 1 + t) (.int .i64 (va + 1))) (b := dg) (by simp [Value.ownBlock, hgd]) (k + 1 + t) (.int .i64 (va + 1 + 1))).alloc (.cells #[.int .i64 op, .int .i64 t, .int .i64 t, .int .i64 kk] 46))
            have HG2 := hid (gb_alloc (gb_own (gb_own HG.out hdb (k + 1 + t) (.int .i64 (va + 1))) hdb (k + 1 + t) (.int .i64 (va + 1 + 1))) (.cells #[.int .i64 op, .int .i64 t, .int .i64 t, .int .i64 kk] 46))
            have v0 : 0 ≤ va ∧ va ≤ 2048 := by omega
            clear hsk2 hs1 hs2 hin hbr HO HA HD cD hrg HDr HOr eI
            go_wp2_with fail
            refine (hT.out _).mono ?_
            rintro e w3 ⟨rfl, rfl⟩
            clear hT
            go_wp2_with fail
            go_roundw
            case rel => exact ⟨k + 1, _, by omega, by go_num, HG2.out, hN, HO2.out, HD2.out⟩
            case measure => simp [intOf]; omega
          · have hN := hid (hs2.out (k + 1 + t) (k + 1 + f) i1 i2 (fun to h => by simp at h; omega))
            have ca0 := cD.out (k + 1 + t) (by omega)
            have rg0 := hrg.out (k + 1 + t) (by omega)
            have na0 : ((k : Int) + 1 + (t : Int)).toNat = k + 1 + t := by omega
            have oa0 : (k : Int) + 1 + (t : Int) < (m : Int) := by omega
            have pa0 : (0 : Int) ≤ (k : Int) + 1 + (t : Int) := by omega
            have ca1 := cD.out (k + 1 + f) (by omega)
            have rg1 := hrg.out (k + 1 + f) (by omega)
            have na1 : ((k : Int) + 1 + (f : Int)).toNat = k + 1 + f := by omega
            have oa1 : (k : Int) + 1 + (f : Int) < (m : Int) := by omega
            have pa1 : (0 : Int) ≤ (k : Int) + 1 + (f : Int) := by omega
            have e2 : Sc.fAt (inc D (k + 1 + t)) (k + 1 + f) = Sc.fAt D (k + 1 + f) := by rw [inc_at, if_neg (by omega)]
            have eI : Hid (inc (inc D (k + 1 + t)) (k + 1 + f) = (D.set (k + 1 + t) (Sc.fAt D (k + 1 + t) + 1)).set (k + 1 + f) (Sc.fAt D (k + 1 + f) + 1)) := by
              show (inc D (k + 1 + t)).set (k + 1 + f) (Sc.fAt (inc D (k + 1 + t)) (k + 1 + f) + 1) = _
              rw [e2]; rfl
            rw [eI.out] at hN
            generalize Sc.fAt D (k + 1 + t) = va at *
            generalize Sc.fAt D (k + 1 + f) = vb at *
            have hne : ¬ (k + 1 + t = k + 1 + f) := by omega
            have hne2 : ¬ (k + 1 + f = k + 1 + t) := by omega
            have hne3 : ¬ f = t := fun e => htf e.symm
            have HD2 := hid ((own_iset (own_iset HDr.out (k + 1 + t) (va + 1)) (k + 1 + f) (vb + 1)).alloc (.cells #[.int .i64 op, .int .i64 t, .int .i64 f, .int .i64 kk] 46))
            have HO2 := hid ((owns_set (owns_set HOr.out (b := dg) (by simp [Value.ownBlock, hgd]) (k + 1 + t) (.int .i64 (va + 1))) (b := dg) (by simp [Value.ownBlock, hgd]) (k + 1 + f) (.int .i64 (vb + 1))).alloc (.cells #[.int .i64 op, .int .i64 t, .int .i64 f, .int .i64 kk] 46))
            have HG2 := hid (gb_alloc (gb_own (gb_own HG.out hdb (k + 1 + t) (.int .i64 (va + 1))) hdb (k + 1 + f) (.int .i64 (vb + 1))) (.cells #[.int .i64 op, .int .i64 t, .int .i64 f, .int .i64 kk] 46))
            have v0 : 0 ≤ va ∧ va ≤ 2048 := by omega
            have v1 : 0 ≤ vb ∧ vb ≤ 2048 := by omega
            clear hsk2 hs1 hs2 hin hbr HO HA HD cD hrg HDr HOr eI
            go_wp2_with fail
            refine (hT.out _).mono ?_
            rintro e w3 ⟨rfl, rfl⟩
            clear hT
            go_wp2_with fail
            go_roundw
            case rel => exact ⟨k + 1, _, by omega, by go_num, HG2.out, hN, HO2.out, HD2.out⟩
            case measure => simp [intOf]; omega
      · rw [if_neg ht] at hs1 hs2 hin
        have hnt : Sc.isTest op = false := by simpa using ht
        rw [hnt] at hT
        by_cases h10 : op = 10
        · rw [if_pos h10] at hs1 hs2 hin
          have i1 : k + 1 + kk < L.length := hin.out _ (by simp)
          subst h10
          cases hkb : Sc.kp B k
          · rw [hkb] at ck hbr
            have hnr : ¬ Sc.Rch L k := fun h => by have := hbr.2 h; cases this
            clear ht hnt
            have hN := hid (hsk2.out (fun q => hnr q.1))
            clear hsk2 hs1 hs2 hin hbr
            go_wp2_with fail
            refine (hT.out _).mono ?_
            rintro e w3 ⟨rfl, rfl⟩
            clear hT
            go_wp2_with fail
            go_roundw
            case rel => exact ⟨k + 1, D, by omega, by go_num, HA.out, hN, HO.out, HD.out⟩
            case measure => simp [intOf]; omega
          · rw [hkb] at ck
            clear ht hnt
            have hN := hid (hs1.out (k + 1 + kk) i1 (fun to h => by simp at h; omega))
            have ca0 := cD.out (k + 1 + kk) (by omega)
            have rg0 := hrg.out (k + 1 + kk) (by omega)
            have na0 : ((k : Int) + 1 + (kk : Int)).toNat = k + 1 + kk := by omega
            have oa0 : (k : Int) + 1 + (kk : Int) < (m : Int) := by omega
            have pa0 : (0 : Int) ≤ (k : Int) + 1 + (kk : Int) := by omega
            have eI : Hid (inc D (k + 1 + kk) = D.set (k + 1 + kk) (Sc.fAt D (k + 1 + kk) + 1)) := rfl
            rw [eI.out] at hN
            generalize Sc.fAt D (k + 1 + kk) = va at *
            have HD2 := hid ((own_iset HDr.out (k + 1 + kk) (va + 1)).alloc (.cells #[.int .i64 10, .int .i64 t, .int .i64 f, .int .i64 kk] 46))
            have HO2 := hid ((owns_set HOr.out (b := dg) (by simp [Value.ownBlock, hgd]) (k + 1 + kk) (.int .i64 (va + 1))).alloc (.cells #[.int .i64 10, .int .i64 t, .int .i64 f, .int .i64 kk] 46))
            have HG2 := hid (gb_alloc (gb_own HG.out hdb (k + 1 + kk) (.int .i64 (va + 1))) (.cells #[.int .i64 10, .int .i64 t, .int .i64 f, .int .i64 kk] 46))
            have v0 : 0 ≤ va ∧ va ≤ 2048 := by omega
            have em : ((kk : Int)).tmod 1024 = (kk : Int) := by rw [Int.tmod_eq_emod_of_nonneg (by omega)]; omega
            have em2 : ((kk : Int)) % 1024 = (kk : Int) := by omega
            clear hsk2 hs1 hs2 hin hbr HO HA HD cD hrg HDr HOr eI
            go_wp2_with fail
            refine (hT.out _).mono ?_
            rintro e w3 ⟨rfl, rfl⟩
            clear hT
            go_wp2_with fail
            go_roundw
            case rel => exact ⟨k + 1, _, by omega, by go_num, HG2.out, hN, HO2.out, HD2.out⟩
            case measure => simp [intOf]; omega
        · have e10 : (op == 10) = false := by simp [h10]
          have hnn : ¬ (Sc.isTest op = true ∨ op = 10) := by
            rintro (q | q)
            · exact ht q
            · exact h10 q
          clear h10 ht hnt
          have hN := hid (hsk2.out (fun q => hnn q.2))
          clear hsk2 hs1 hs2 hin hbr
          go_wp2_with fail
          refine (hT.out _).mono ?_
          rintro e w3 ⟨rfl, rfl⟩
          clear hT
          go_wp2_with fail
          go_roundw
          case rel => exact ⟨k + 1, D, by omega, by go_num, HA.out, hN, HO.out, HD.out⟩
          case measure => simp [intOf]; omega
    · have hkk : k = L.length := by omega
      subst hkk
      have HO := hid hown
      have HD := hid hD
      have HL := hid hL.out
      clear hown hD hL hg
      go_wp2_with fail
      obtain ⟨W, hWe⟩ : ∃ W, W = wr := ⟨_, rfl⟩
      subst hWe
      go_loopw [9] (fun i wx => ∃ (k : Nat), k ≤ L.length ∧ i = .int .i64 k ∧ W.grownBy wx none) (fun i wx => L.length - (intOf i).toNat)
      case atStart => exact ⟨0, Nat.zero_le _, rfl, gb_refl _ _⟩
      case round =>
        obtain ⟨k, hk2, rfl, hgx⟩ := hrel
        have HX := hid hgx
        have HGx := hid (gb_trans HG.out hgx)
        clear HG
        by_cases hlt : k < L.length
        · have hlt' : (k : Int) < (L.length : Int) := by omega
          have hIx := HI.out.keep HGx.out
          obtain ⟨bb, off, hsa, hb, hcell⟩ := hIx k hlt
          have t0 := hcell 0 (by omega)
          have t1 := hcell 1 (by omega)
          have t2 := hcell 2 (by omega)
          have t3 := hcell 3 (by omega)
          have ck := own_boo hBl.symm (kept_none HO.out hgx) k (by omega)
          have cd := own_int (by omega) (kept_none HD.out hgx) k (by omega)
          have hxr := HS.out.1.2 k hlt
          have hwx := (wrong_iff _ _).1 (HS.out.2.2.1 k hlt)
          have hbr := HBr.out k
          have hT := hid (fun w => kIsTest_any w L[k].op)
          have HIx := hid hIx
          have hbl : w.heap.size < wr.heap.size := by have := (HO.out.lt w.heap.size rfl).2; have := hgx.size; omega
          have hdl2 : dg < wr.heap.size := by have := hgx.size; omega
          have GA := hid (gb_alloc HX.out (.cells (inCells L[k]) 46))
          have GAD := hid (gb_drew (gb_alloc HX.out (.cells (inCells L[k]) 46)))
          have HTd := hid (fun h => tidy_at (L := L) h k hlt)
          have HLs := hid (fun (h : DoneL L) h0 hr hd h1 hs => doneL_side h (i := k) h0 hlt hr (HL.out.none hd) h1 hs)
          have HKs := hid (fun (h : DoneK L) h0 hr hd h2 ht => doneK_side HS.out h (i := k) h0 hlt hr (HL.out.none hd) h2 ht)
          clear hgx hcell hIx HX
          generalize hDv : Sc.fAt D k = dv at *
          have HDv := hid hDv
          clear hDv
          obtain ⟨X, hX⟩ : ∃ X, X = L[k] := ⟨_, rfl⟩
          have HXe := hid hX
          rw [← hX] at t0 t1 t2 t3 hxr hwx hT GA GAD HTd HLs HKs
          clear hX
          obtain ⟨op, t, f, kk⟩ := X
          obtain ⟨x1, x2, x3, x4, x5, x6, x7, x8⟩ := hxr
          simp only at x1 x2 x3 x4 x5 x6 x7 x8 hT hwx HTd HLs HKs
          obtain ⟨kk, rfl⟩ := Int.eq_ofNat_of_zero_le x7
          simp only [Int.toNat_natCast] at HTd
          simp only [inCells] at GA GAD
          simp [inCells] at t0 t1 t2 t3
          have hq := HK.out
          clear HTd HLs
          have hK2 := HKs.out hq
          clear HKs hq
          cases k with
          | zero =>
            subst hsa
            clear hK2 hbr hwx hT
            simp at t0 t1 t2 t3
            go_wp2_with fail
            go_roundw
            case rel => exact ⟨0 + 1, by omega, by go_num, GA.out⟩
            case measure => simp [intOf]; omega
          | succ k =>
            have c0 : (0 : Int) < ((k + 1 : Nat) : Int) := by omega
            cases hkb : Sc.kp B (k + 1)
            · rw [hkb] at ck
              subst hsa
              clear hK2 hbr hwx hT
              go_wp2_with fail
              go_roundw
              case rel => exact ⟨k + 1 + 1, by omega, by go_num, GA.out⟩
              case measure => simp [intOf]; omega
            · rw [hkb] at ck
              by_cases hd0 : dv = 0
              · have hne := fun z1 z2 => hK2 (Nat.succ_pos k) (hbr.1 hkb) hd0 z1 z2
                obtain ⟨bb', off', hbo, hb', hcell'⟩ := HIx.out k (by omega)
                rw [hsa] at hbo
                cases hbo
                have y0 := hcell' 0 (by omega)
                have hne2 : (L[k]'(by omega)).op = 2 → ¬ (Sc.isTest op = true ∨ op = 16) := fun z1 z2 => hne z1 z2
                generalize (L[k]'(by omega)) = Y at *
                obtain ⟨yo, yt, yf, yk⟩ := Y
                simp [inCells] at y0
                simp only at hne2
                have ekI : ((k + 1 : Nat) : Int) - 1 = (k : Int) := by omega
                by_cases hy2 : yo = 2
                · have hn := hne2 hy2
                  have hnt : Sc.isTest op = false := by
                    cases q : Sc.isTest op
                    · rfl
                    · exact absurd (Or.inl q) hn
                  have e16 : (op == 16) = false := by rw [beq_eq_false_iff_ne]; exact fun q => hn (Or.inr q)
                  rw [hnt] at hT
                  subst hy2 hd0
                  subst hsa
                  clear hK2 hbr hwx hne hne2 hcell' hn hnt
                  go_wp2_with fail
                  refine (hT.out _).mono ?_
                  rintro e w3 ⟨rfl, rfl⟩
                  clear hT
                  go_wp2_with fail
                  go_roundw
                  case rel => exact ⟨k + 1 + 1, by omega, by go_num, GA.out⟩
                  case measure => simp [intOf]; omega
                · have ey : (yo == 2) = false := by simp [hy2]
                  subst hd0
                  subst hsa
                  clear hK2 hbr hwx hne hne2 hcell' hT hy2
                  go_wp2_with fail
                  go_roundw
                  case rel => exact ⟨k + 1 + 1, by omega, by go_num, GA.out⟩
                  case measure => simp [intOf]; omega
              · have ed : (dv == 0) = false := by simp [hd0]
                subst hsa
                clear hK2 hbr hwx hT hd0
                go_wp2_with fail
                go_roundw
                case rel => exact ⟨k + 1 + 1, by omega, by go_num, GA.out⟩
                case measure => simp [intOf]; omega
        · have hkk : k = L.length := by omega
          subst hkk
          clear hgx
          go_wp2_with fail
          go_ret
          exact ⟨rfl, HGx.out⟩
end Go.Proofs.Ytldongbimhngfaa
