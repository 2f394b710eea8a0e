/- sievekeep's codes: Code. -/
import Derived.Test.YtldongbimhngfaaKc2
namespace Go.Proofs.Ytldongbimhngfaa
open Go.RowKit
set_option linter.unusedVariables false
set_option linter.unusedSimpArgs false

/-- the first k instructions of a code of n -/
def codeP (ll : Nat) (z : Nat → Int) (n k : Nat) : List Sc.In := (List.range k).map (mkIn ll z n)
theorem codeP_succ (ll : Nat) (z : Nat → Int) (n k : Nat) : codeP ll z n (k + 1) = codeP ll z n k ++ [mkIn ll z n k] := by
  unfold codeP; rw [List.range_succ, List.map_append]; rfl
theorem codeP_len (ll : Nat) (z : Nat → Int) (n k : Nat) : (codeP ll z n k).length = k := by unfold codeP; simp
theorem codeP_get (ll : Nat) (z : Nat → Int) (n k i : Nat) (h : i < (codeP ll z n k).length) : (codeP ll z n k)[i] = mkIn ll z n i := by simp [codeP]

set_option maxRecDepth 100000 in
set_option maxHeartbeats 4000000 in
theorem code_any (w : World) (la : Option Addr) (ll lc : Nat) (z : Nat → Int) (most : Nat) (hR : RawRow w w.heap.size la ll z) (hll : ll ≤ maxLen) (hm1 : 1 ≤ most) (hm2 : most ≤ 1024) :
    Calls Try.prog 26 #[.slice la ll lc, .int .i64 most] w fun e w' => ∃ (v : Value) (n : Nat), e = .returned v ∧ 1 ≤ n ∧ n ≤ most ∧ w.grownBy w' none ∧ w'.ownsRow w.heap.size 46 4 v n (insCells (codeP ll z n n)) := by
  have HR := hid hR
  have hll2 := hll
  unfold maxLen at hll2
  obtain ⟨iI, iI_e, iI_z, iI_s, iI_b⟩ := iIn_ex
  have iI_eq := hid iI_e
  have HL := hid hll
  clear iI_e hR hll
  by_cases hov : ll ≤ 9223372036854775804
  · by_cases h0 : ll = 0
    · have e1 : ((ll : Int) + 3) / 4 = 0 := by omega
      have d17 : decide ((most : Int) < 1) = false := by simp; omega
      have d18 : decide (most < 1) = false := by simp; omega
      have H0 := hid h0
      clear h0
      go_enter Try.func26, Try.ntmps26
      go_wp2_with fail
      simp only [e1]
      go_loopw [6, 7] (fun v i wr => (i = .int .i64 0 ∧ v = .slice none 0 0 ∧ wr = w) ∨ (i = .int .i64 1 ∧ w.grownBy wr none ∧ wr.ownsRow w.heap.size 46 4 v 1 (insCells (codeP ll z 1 1)))) (fun _ i _ => 1 - (intOf i).toNat)
      case atStart => exact Or.inl ⟨rfl, rfl, rfl⟩
      case round =>
        rcases hrel with ⟨rfl, rfl, rfl⟩ | ⟨rfl, hg, hown⟩
        · have hJ0 := instr_any wr la ll lc z wr.heap.size 0 1 HR.out (Nat.le_refl _) HL.out (by omega) (by omega)
          have hJ := hid hJ0
          have hsn : Hid (codeP ll z 1 1 = [] ++ [mkIn ll z 1 0]) := codeP_succ ll z 1 0
          clear hJ0
          generalize mkIn ll z 1 0 = X at *
          obtain ⟨op, t, f, kk⟩ := X
          simp only [inCells] at hJ
          go_wp2_with fail
          refine Calls.mono hJ.out ?_
          rintro e w1 ⟨rfl, hg1⟩
          have Hg1 := hid hg1
          have hz1 := hg1.size
          clear hJ hg1
          go_wp2_with (first
            | (at_builtin; refine wpList_append_own _ rfl _ _ 39 rfl wr.heap.size 46 iI zIn 4 32 uIn iI_eq.out iI_z iI_s iI_b rfl (by decide) (.slice none 0 0) 0 [] rfl (World.ownsRow_nil _ _ _ _) ⟨w1.heap.size + 1, 0, none⟩ 1 1 [.int .i64 op, .int .i64 t, .int .i64 f, .int .i64 kk] rfl rfl ?c1 ?c2 ?c3 ?c4 ?c5 ?_)
            | fail)
          case c1 => exact new_cells _ 46 #[.int .i64 op, .int .i64 t, .int .i64 f, .int .i64 kk] _ (by simp)
          case c2 => intro u hu; simp at hu; rcases hu with rfl | rfl | rfl | rfl <;> rfl
          case c3 => unfold maxLen; omega
          case c4 => omega
          case c5 => simp; omega
          intro v1 w2 hown2 hgrow2 _
          have Hg2 := hid (gb_grow (gb_alloc (gb_alloc Hg1.out (.cells #[.int .i64 op, .int .i64 t, .int .i64 f, .int .i64 kk] 46)) (.cells #[.int .i64 op, .int .i64 t, .int .i64 f, .int .i64 kk] 46)) hgrow2 (fun j hj => by cases hj))
          have Ho2 := hid hown2
          clear hgrow2 hown2
          go_wp2_with fail
          go_roundw
          case rel =>
            refine Or.inr ⟨rfl, Hg2.out, ?_⟩
            rw [hsn.out, insCells_snoc]
            exact Ho2.out
          case measure => simp [intOf]
        · have Ho := hid hown
          have HG := hid hg
          clear hown hg
          go_wp2_with fail
          go_ret
          exact ⟨_, 1, rfl, by omega, by omega, HG.out, Ho.out⟩
    · by_cases hbig : (ll + 3) / 4 ≤ most
      · obtain ⟨N, hN⟩ : ∃ N : Nat, N = (ll + 3) / 4 := ⟨_, rfl⟩
        have e1 : ((ll : Int) + 3) / 4 = (N : Int) := by omega
        have hN2 : 1 ≤ N := by omega
        have hN3 : N ≤ most := by omega
        have d17 : decide ((most : Int) < (N : Int)) = false := by simp; omega
        have d18 : decide (most < N) = false := by simp; omega
        clear hbig hN
        go_enter Try.func26, Try.ntmps26
        go_wp2_with fail
        simp only [e1]
        go_loopw [6, 7] (fun v i wr => ∃ k : Nat, k ≤ N ∧ i = .int .i64 k ∧ w.grownBy wr none ∧ wr.ownsRow w.heap.size 46 4 v k (insCells (codeP ll z N k))) (fun _ i _ => N - (intOf i).toNat)
        case atStart => exact ⟨0, Nat.zero_le _, rfl, gb_refl _ _, World.ownsRow_nil _ _ _ _⟩
        case round =>
          obtain ⟨k, hk, rfl, hg, hown⟩ := hrel
          have HG := hid hg
          have hz := hg.size
          by_cases hlt : k < N
          · have hlt' : (k : Int) < ((N : Nat) : Int) := by omega
            have hJ := hid (instr_any wr la ll lc z w.heap.size k N (HR.out.keep hg (Nat.le_refl _) (fun _ h => by cases h)) hz HL.out hlt (by omega))
            have hsn := hid (codeP_succ ll z N k)
            clear hg
            generalize mkIn ll z N k = X at *
            obtain ⟨op, t, f, kk⟩ := X
            simp only [inCells] at hJ
            go_wp2_with fail
            refine hJ.out.mono ?_
            rintro e w1 ⟨rfl, hg1⟩
            have ho1 := kept_none hown hg1
            have Hg1 := hid (gb_trans HG.out hg1)
            have hz1 := Hg1.out.size
            clear hJ hown hg1
            go_wp2_with (first
              | (at_builtin; refine wpList_append_own _ rfl _ _ 39 rfl w.heap.size 46 iI zIn 4 32 uIn iI_eq.out iI_z iI_s iI_b rfl (by decide) u6 k (insCells (codeP ll z N k)) rfl ((ho1.alloc _).alloc _) ⟨w1.heap.size + 1, 0, none⟩ 1 1 [.int .i64 op, .int .i64 t, .int .i64 f, .int .i64 kk] rfl rfl ?c1 ?c2 ?c3 ?c4 ?c5 ?_)
              | fail)
            case c1 => exact new_cells _ 46 #[.int .i64 op, .int .i64 t, .int .i64 f, .int .i64 kk] _ (by simp)
            case c2 => intro u hu; simp at hu; rcases hu with rfl | rfl | rfl | rfl <;> rfl
            case c3 => unfold maxLen; omega
            case c4 => omega
            case c5 => simp; omega
            intro v1 w2 hown2 hgrow2 _
            have hlt1 := ho1.lt
            have Hg2 := hid (gb_grow (gb_alloc (gb_alloc Hg1.out (.cells #[.int .i64 op, .int .i64 t, .int .i64 f, .int .i64 kk] 46)) (.cells #[.int .i64 op, .int .i64 t, .int .i64 f, .int .i64 kk] 46)) hgrow2 (fun j hj => (hlt1 j hj).1))
            have Ho2 := hid hown2
            clear hgrow2 hlt1 hown2 ho1
            go_wp2_with fail
            go_roundw
            case rel =>
              refine ⟨k + 1, by omega, by go_num, Hg2.out, ?_⟩
              rw [hsn.out, insCells_snoc]
              exact Ho2.out
            case measure => simp [intOf]; omega
          · have hkn : k = N := by omega
            subst hkn
            have Ho := hid hown
            clear hown hg
            go_wp2_with fail
            go_ret
            exact ⟨_, _, rfl, by omega, by omega, HG.out, Ho.out⟩
      · have e1 : 1 ≤ ((ll : Int) + 3) / 4 := by omega
        have e2 : (most : Int) < ((ll : Int) + 3) / 4 := by omega
        clear hbig
        go_enter Try.func26, Try.ntmps26
        go_wp2_with fail
        skip
        go_loopw [6, 7] (fun v i wr => ∃ k : Nat, k ≤ most ∧ i = .int .i64 k ∧ w.grownBy wr none ∧ wr.ownsRow w.heap.size 46 4 v k (insCells (codeP ll z most k))) (fun _ i _ => most - (intOf i).toNat)
        case atStart => exact ⟨0, Nat.zero_le _, rfl, gb_refl _ _, World.ownsRow_nil _ _ _ _⟩
        case round =>
          obtain ⟨k, hk, rfl, hg, hown⟩ := hrel
          have HG := hid hg
          have hz := hg.size
          by_cases hlt : k < most
          · have hlt' : (k : Int) < ((most : Nat) : Int) := by omega
            have hJ := hid (instr_any wr la ll lc z w.heap.size k most (HR.out.keep hg (Nat.le_refl _) (fun _ h => by cases h)) hz HL.out hlt (by omega))
            have hsn := hid (codeP_succ ll z most k)
            clear hg
            generalize mkIn ll z most k = X at *
            obtain ⟨op, t, f, kk⟩ := X
            simp only [inCells] at hJ
            go_wp2_with fail
            refine hJ.out.mono ?_
            rintro e w1 ⟨rfl, hg1⟩
            have ho1 := kept_none hown hg1
            have Hg1 := hid (gb_trans HG.out hg1)
            have hz1 := Hg1.out.size
            clear hJ hown hg1
            go_wp2_with (first
              | (at_builtin; refine wpList_append_own _ rfl _ _ 39 rfl w.heap.size 46 iI zIn 4 32 uIn iI_eq.out iI_z iI_s iI_b rfl (by decide) u6 k (insCells (codeP ll z most k)) rfl ((ho1.alloc _).alloc _) ⟨w1.heap.size + 1, 0, none⟩ 1 1 [.int .i64 op, .int .i64 t, .int .i64 f, .int .i64 kk] rfl rfl ?c1 ?c2 ?c3 ?c4 ?c5 ?_)
              | fail)
            case c1 => exact new_cells _ 46 #[.int .i64 op, .int .i64 t, .int .i64 f, .int .i64 kk] _ (by simp)
            case c2 => intro u hu; simp at hu; rcases hu with rfl | rfl | rfl | rfl <;> rfl
            case c3 => unfold maxLen; omega
            case c4 => omega
            case c5 => simp; omega
            intro v1 w2 hown2 hgrow2 _
            have hlt1 := ho1.lt
            have Hg2 := hid (gb_grow (gb_alloc (gb_alloc Hg1.out (.cells #[.int .i64 op, .int .i64 t, .int .i64 f, .int .i64 kk] 46)) (.cells #[.int .i64 op, .int .i64 t, .int .i64 f, .int .i64 kk] 46)) hgrow2 (fun j hj => (hlt1 j hj).1))
            have Ho2 := hid hown2
            clear hgrow2 hlt1 hown2 ho1
            go_wp2_with fail
            go_roundw
            case rel =>
              refine ⟨k + 1, by omega, by go_num, Hg2.out, ?_⟩
              rw [hsn.out, insCells_snoc]
              exact Ho2.out
            case measure => simp [intOf]; omega
          · have hkn : k = most := by omega
            subst hkn
            have Ho := hid hown
            clear hown hg
            go_wp2_with fail
            go_ret
            exact ⟨_, _, rfl, by omega, by omega, HG.out, Ho.out⟩
  · have e0 : IntKind.i64.wrap ((ll : Int) + 3) = (ll : Int) + 3 - 18446744073709551616 := by rw [IntKind.wrap_i64]; omega
    have e5 : ((ll : Int) + 3 - 18446744073709551616).tdiv 4 < 1 := by
      have h4 : (ll : Int) + 3 - 18446744073709551616 = -(18446744073709551616 - (ll : Int) - 3) := by omega
      rw [h4, Int.neg_tdiv, Int.tdiv_eq_ediv_of_nonneg (by omega)]; omega
    have d17 : decide ((most : Int) < 1) = false := by simp; omega
    have d18 : decide (most < 1) = false := by simp; omega
    have d19 : decide (((ll : Int) + 3 - 18446744073709551616).tdiv 4 < 1) = true := by simp [e5]
    go_enter Try.func26, Try.ntmps26
    go_wp2_with fail
    skip
    go_loopw [6, 7] (fun v i wr => (i = .int .i64 0 ∧ v = .slice none 0 0 ∧ wr = w) ∨ (i = .int .i64 1 ∧ w.grownBy wr none ∧ wr.ownsRow w.heap.size 46 4 v 1 (insCells (codeP ll z 1 1)))) (fun _ i _ => 1 - (intOf i).toNat)
    case atStart => exact Or.inl ⟨rfl, rfl, rfl⟩
    case round =>
      rcases hrel with ⟨rfl, rfl, rfl⟩ | ⟨rfl, hg, hown⟩
      · have hJ0 := instr_any wr la ll lc z wr.heap.size 0 1 HR.out (Nat.le_refl _) HL.out (by omega) (by omega)
        have hJ := hid hJ0
        have hsn : Hid (codeP ll z 1 1 = [] ++ [mkIn ll z 1 0]) := codeP_succ ll z 1 0
        clear hJ0
        generalize mkIn ll z 1 0 = X at *
        obtain ⟨op, t, f, kk⟩ := X
        simp only [inCells] at hJ
        go_wp2_with fail
        refine Calls.mono hJ.out ?_
        rintro e w1 ⟨rfl, hg1⟩
        have Hg1 := hid hg1
        have hz1 := hg1.size
        clear hJ hg1
        go_wp2_with (first
          | (at_builtin; refine wpList_append_own _ rfl _ _ 39 rfl wr.heap.size 46 iI zIn 4 32 uIn iI_eq.out iI_z iI_s iI_b rfl (by decide) (.slice none 0 0) 0 [] rfl (World.ownsRow_nil _ _ _ _) ⟨w1.heap.size + 1, 0, none⟩ 1 1 [.int .i64 op, .int .i64 t, .int .i64 f, .int .i64 kk] rfl rfl ?c1 ?c2 ?c3 ?c4 ?c5 ?_)
          | fail)
        case c1 => exact new_cells _ 46 #[.int .i64 op, .int .i64 t, .int .i64 f, .int .i64 kk] _ (by simp)
        case c2 => intro u hu; simp at hu; rcases hu with rfl | rfl | rfl | rfl <;> rfl
        case c3 => unfold maxLen; omega
        case c4 => omega
        case c5 => simp; omega
        intro v1 w2 hown2 hgrow2 _
        have Hg2 := hid (gb_grow (gb_alloc (gb_alloc Hg1.out (.cells #[.int .i64 op, .int .i64 t, .int .i64 f, .int .i64 kk] 46)) (.cells #[.int .i64 op, .int .i64 t, .int .i64 f, .int .i64 kk] 46)) hgrow2 (fun j hj => by cases hj))
        have Ho2 := hid hown2
        clear hgrow2 hown2
        go_wp2_with fail
        go_roundw
        case rel =>
          refine Or.inr ⟨rfl, Hg2.out, ?_⟩
          rw [hsn.out, insCells_snoc]
          exact Ho2.out
        case measure => simp [intOf]
      · have Ho := hid hown
        have HG := hid hg
        clear hown hg
        go_wp2_with fail
        go_ret
        exact ⟨_, 1, rfl, by omega, by omega, HG.out, Ho.out⟩
end Go.Proofs.Ytldongbimhngfaa
