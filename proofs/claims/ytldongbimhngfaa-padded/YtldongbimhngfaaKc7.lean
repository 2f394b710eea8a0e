/- Padded: the walk. -/
import Derived.Test.YtldongbimhngfaaKc6
namespace Go.Proofs.Ytldongbimhngfaa
open Go.RowKit
set_option linter.unusedVariables false
set_option linter.unusedSimpArgs false

set_option maxRecDepth 100000 in
set_option maxHeartbeats 4000000 in
theorem padded_walk (w : World) (la lr : Option Addr) (na ca nr cr : Nat) (za zr : Nat → Int) (k : Int) (hA : RawRow w w.heap.size la na za) (hR : RawRow w w.heap.size lr nr zr) (ma : na ≤ maxLen) (mr : nr ≤ maxLen) (k0 : -9223372036854775808 ≤ k) (k1 : k ≤ 9223372036854775807) :
    Calls Try.prog 7 #[.slice la na ca, .slice lr nr cr, .int .i64 k] w fun e w' => e = .returned (.bool true) ∧ Below w.heap.size w w' := by
  have hC := code_any w la na ca za 1023 hA ma (by omega) (by omega)
  have HR := hid hR
  have hP := hid (fun w => pick_any w k 65536 k0 k1 (by omega) (by omega))
  have hpk := pk_range k 65536 (by omega)
  obtain ⟨iI, iI_e, iI_z, iI_s, iI_b⟩ := iIn_ex
  have iI_eq := hid iI_e
  generalize pk k 65536 = kk at *
  clear iI_e hA hR
  go_enter Try.func7, Try.ntmps7
  go_wp2_with fail
  refine hC.mono ?_
  rintro e w1 ⟨v, n, rfl, hn1, hn2, hg1, ho1⟩
  clear hC
  obtain ⟨sa, sc, rfl⟩ := owns_slice ho1
  have hSL := codeP_sound na za n hn1 (by omega)
  have hlen := codeP_len na za n n
  generalize codeP na za n n = L at *
  subst hlen
  have hz1 := hg1.size
  have hRc := record_any w1 lr nr cr zr (by
    intro i hi
    obtain ⟨b, off, h1, h2, h3, h4⟩ := (HR.out.keep hg1 (Nat.le_refl _) (fun _ h => by cases h)) i hi
    exact ⟨b, off, h1, by omega, h3, h4⟩) mr
  have HSL := hid hSL
  have HG1 := hid hg1
  clear hg1 hSL HR
  go_wp2_with fail
  refine hRc.mono ?_
  rintro e w2 ⟨rfl, hg2⟩
  clear hRc
  have hr20 := rec_size nr zr
  generalize (⟨(recB nr zr 10).toArray⟩ : ByteArray) = r at *
  have Hr := hid hr20
  have ho2 := kept_none ho1 hg2
  have HG2 := hid (gb_trans HG1.out hg2)
  clear ho1 hg2 HG1 hr20
  have hB := kBytes_any w2 sa sc L (InsAt.of_own rfl ho2) HSL.out
  go_wp2_with fail
  refine hB.mono ?_
  rintro e w3 ⟨rfl, hg3⟩
  clear hB
  have ho3 := kept_none ho2 hg3
  have HG3 := hid (gb_trans HG2.out hg3)
  clear ho2 hg3 HG2
  have hN := kRan_any w3 L r HSL.out Hr.out
  go_wp2_with fail
  refine hN.mono ?_
  rintro e w4 ⟨rfl, hg4⟩
  clear hN
  have ho4 := kept_none ho3 hg4
  have HG4 := hid (gb_trans HG3.out hg4)
  clear ho3 hg4 HG3
  have hS1 := hid (sound_ahead HSL.out hn2)
  have hS2 := hid (sound_behind HSL.out hn2 kk hpk.1 (by omega))
  have r1 := hid (run_ahead r L)
  have r2 := hid (run_behind r Hr.out L HSL.out kk)
  have hrng := runL_rng r Hr.out L HSL.out
  generalize hRL : Sc.runL r L = RV at *
  obtain ⟨vv, nn⟩ := RV
  obtain ⟨-, -, q3, q4⟩ := hrng
  simp only at q3 q4
  have HRL := hid hRL
  clear hRL
  -- ahead
  obtain ⟨g, rfl, hgb, hgl, hcell⟩ := owns_in (l := L) rfl ho4 0 (by omega)
  have hz4 := HG4.out.size
  have oa := World.ownsRow_lit (base := w.heap.size) (e := 46) (size := 4) w4 #[.int .i64 10, .int .i64 0, .int .i64 0, .int .i64 0] 1 hz4 (by unfold maxLen; omega) rfl
  have ho5 := ho4.alloc (.cells #[.int .i64 10, .int .i64 0, .int .i64 0, .int .i64 0] 46)
  have HG5 := hid (gb_alloc HG4.out (.cells #[.int .i64 10, .int .i64 0, .int .i64 0, .int .i64 0] 46))
  have hz5 : w.heap.size ≤ (w4.alloc (.cells #[.int .i64 10, .int .i64 0, .int .i64 0, .int .i64 0] 46)).heap.size := by simp; omega
  have hc5 := hid (ho5.cells (g := g) rfl)
  have Ho5 := hid ho5
  clear ho4 ho5 hcell
  go_wp2_with (first
    | (at_builtin; refine wpList_append_own _ rfl (.tmp 44) (.tmp 45) 39 rfl w.heap.size 46 iI zIn 4 32 uIn iI_eq.out iI_z iI_s iI_b rfl (by decide) (.slice (some ⟨w4.heap.size, 0, none⟩) 1 1) 1 [.int .i64 10, .int .i64 0, .int .i64 0, .int .i64 0] rfl oa ⟨g, 0, none⟩ L.length sc (insCells L) rfl (insCells_len L) ?c1 (insCells_one L) ?c3 ?c4 hz5 ?_)
    | fail)
  case c1 => exact hc5.out
  case c3 => unfold maxLen; omega
  case c4 => omega
  intro v5 w5 hown5 hgrow5 _
  have ho6 := hid (Ho5.out.kept hgrow5 (Or.inr (by simp only [Value.ownBlock, ne_eq, Option.some.injEq]; omega)))
  have HG6 := hid (gb_grow HG5.out hgrow5 (fun j hj => by simp only [Value.ownBlock, Option.some.injEq] at hj; omega))
  have hz6 := HG6.out.size
  obtain ⟨a5, c5, rfl⟩ := owns_slice hown5
  have e5 : (go0 :: L).length = 1 + L.length := by simp; omega
  have hB := kBytes_any w5 a5 c5 (go0 :: L) (InsAt.of_own (n := 1 + L.length) (sc := c5) e5.symm hown5) hS1.out
  rw [e5] at hB
  clear Ho5 HG5 hgrow5 hown5 oa hc5 hz5 e5
  go_wp2_with fail
  refine hB.mono ?_
  rintro e w6 ⟨rfl, hg6⟩
  clear hB
  have ho7 := hid (kept_none ho6.out hg6)
  have HG7 := hid (gb_trans HG6.out hg6)
  clear ho6 hg6 HG6
  have hN := kRan_any w6 (go0 :: L) r hS1.out Hr.out
  rw [r1.out] at hN
  go_wp2_with fail
  refine hN.mono ?_
  rintro e w7 ⟨rfl, hg7⟩
  clear hN r1 hS1
  have ho8 := kept_none ho7.out hg7
  have HG8 := hid (gb_trans HG7.out hg7)
  have hz8 := HG8.out.size
  have hc8 := hid (ho8.cells (g := g) rfl)
  have Ho8 := hid ho8
  have hg8 := (ho8.lt g rfl).2
  clear ho7 hg7 HG7 ho8
  go_wp2_with (first
    | (at_builtin; refine wpList_append_own _ rfl (.tmp 59) (.tmp 60) 39 rfl w.heap.size 46 iI zIn 4 32 uIn iI_eq.out iI_z iI_s iI_b rfl (by decide) (.slice none 0 0) 0 [] rfl (World.ownsRow_nil _ _ _ _) ⟨g, 0, none⟩ L.length sc (insCells L) rfl (insCells_len L) ?d1 (insCells_one L) ?d3 ?d4 hz8 ?_)
    | fail)
  case d1 => exact hc8.out
  case d3 => unfold maxLen; omega
  case d4 => omega
  intro v9 w9 hown9 hgrow9 _
  have HG9 := hid (gb_grow HG8.out hgrow9 (fun j hj => by cases hj))
  have hz9 := HG9.out.size
  try simp only [Nat.zero_add, List.nil_append] at hown9
  clear hgrow9 HG8 Ho8 hc8
  go_wp2_with fail
  refine (hP.out _).mono ?_
  rintro e w10 ⟨rfl, hw⟩
  subst hw
  clear hP
  go_wp2_with (first
    | (at_builtin; refine wpList_append_own _ rfl (.tmp 62) (.tmp 66) 39 rfl w.heap.size 46 iI zIn 4 32 uIn iI_eq.out iI_z iI_s iI_b rfl (by decide) v9 L.length (insCells L) rfl (hown9.alloc _) ⟨w10.heap.size, 0, none⟩ 1 1 [.int .i64 15, .int .i64 0, .int .i64 0, .int .i64 kk] rfl rfl ?f1 ?f2 ?f3 ?f4 ?f5 ?_)
    | fail)
  case f1 => exact new_cells _ 46 #[.int .i64 15, .int .i64 0, .int .i64 0, .int .i64 kk] _ rfl
  case f2 => intro u hu; simp at hu; rcases hu with rfl | rfl | rfl | rfl <;> rfl
  case f3 => unfold maxLen; omega
  case f4 => omega
  case f5 => simp; omega
  intro v11 w11 hown11 hgrow11 _
  have hlt9 := hown9.lt
  have HG11 := hid (gb_grow (gb_alloc HG9.out (.cells #[.int .i64 15, .int .i64 0, .int .i64 0, .int .i64 kk] 46)) hgrow11 (fun j hj => (hlt9 j hj).1))
  obtain ⟨a11, c11, rfl⟩ := owns_slice hown11
  have e11 : (L ++ [retK kk]).length = L.length + 1 := by simp
  have hB := kBytes_any w11 a11 c11 (L ++ [retK kk]) (InsAt.of_own (n := L.length + 1) (sc := c11) e11.symm (by rw [insCells_snoc]; exact hown11)) hS2.out
  rw [e11] at hB
  clear hgrow11 hown11 hlt9 hown9 e11 HG9
  go_wp2_with fail
  refine hB.mono ?_
  rintro e w12 ⟨rfl, hg12⟩
  clear hB
  have HG12 := hid (gb_trans HG11.out hg12)
  clear hg12 HG11
  have hN := kRan_any w12 (L ++ [retK kk]) r hS2.out Hr.out
  rw [r2.out] at hN
  go_wp2_with fail
  refine hN.mono ?_
  rintro e w13 ⟨rfl, hg13⟩
  clear hN r2 hS2
  have HG13 := hid (gb_trans HG12.out hg13)
  clear hg13 HG12
  go_wp2_with fail
  go_ret
  exact ⟨by simp, gb_below HG13.out⟩
end Go.Proofs.Ytldongbimhngfaa
