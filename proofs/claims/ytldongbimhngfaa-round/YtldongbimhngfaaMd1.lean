/- The program's Decode: its walk. -/
import Derived.Test.YtldongbimhngfaaMc1
namespace Go.Proofs.Ytldongbimhngfaa
open Go.RowKit
set_option linter.unusedVariables false
set_option linter.unusedSimpArgs false

set_option maxRecDepth 100000 in
set_option maxHeartbeats 4000000 in
theorem mDecode_ok (w : World) (c : ByteArray) (n : Nat) (hs : c.size ≤ 5120) (hn : c.size = 5 * n) :
    Calls Try.prog 41 #[.string c] w fun e w' => e = .returned (.tuple #[.slice (some ⟨w.heap.size, 0, none⟩) n n, .int .i64 0]) ∧ w.grownBy w' none ∧ w'.ownsRow w.heap.size 46 4 (.slice (some ⟨w.heap.size, 0, none⟩) n n) n (insCells (Sc.ins c n)) := by
  obtain ⟨iI, iI_e, iI_z, iI_s, iI_b⟩ := iIn_ex
  have iI_eq := hid iI_e
  clear iI_e
  have e1 : (c.size : Int).tmod 5 = 0 := by rw [Int.tmod_eq_emod_of_nonneg (by omega)]; omega
  have e2 : (c.size : Int).tdiv 5 = (n : Int) := by rw [Int.tdiv_eq_ediv_of_nonneg (by omega)]; omega
  have hn1 : n ≤ 1024 := by omega
  have Hn := hid hn
  clear hn
  go_enter Try.func41, Try.ntmps41
  go_wp2_with (first
    | (at_make; refine wpList_make_own _ rfl _ _ 39 rfl w.heap.size 46 iI zIn 4 uIn iI_eq.out iI_z iI_s _ _ _ n rfl rfl (by first | rfl | omega) (by rw [iI_b]; omega) (by unfold maxLen; omega) (Nat.le_refl _) ?_)
    | fail)
  intro w1 hown1 hgrow1
  have HG1 := hid hgrow1
  clear hgrow1 e1 e2
  go_wp2_with fail
  go_loopw [4, 5] (fun v i wr => ∃ (k : Nat), k ≤ n ∧ i = .int .i64 (5 * (k : Int)) ∧ v = .slice (some ⟨w.heap.size, 0, none⟩) k n ∧ w.grownBy wr none ∧ wr.ownsRow w.heap.size 46 4 (.slice (some ⟨w.heap.size, 0, none⟩) k n) k (insCells (Sc.ins c k))) (fun v i wr => 5120 - (intOf i).toNat)
  case atStart => exact ⟨0, Nat.zero_le _, rfl, rfl, HG1.out, hown1⟩
  case round =>
    obtain ⟨k, hk, rfl, rfl, hg, hown⟩ := hrel
    have HG := hid hg
    have hz := hg.size
    have hwl := (hown.lt w.heap.size rfl).2
    clear hown1 HG1 hg
    have hn := Hn.out
    by_cases hlt : k < n
    · have z0 : (0 : Int) ≤ 5 * (k : Int) := by omega
      have z1 : (0 : Int) ≤ 5 * (k : Int) + 1 := by omega
      have z2 : (0 : Int) ≤ 5 * (k : Int) + 2 := by omega
      have z3 : (0 : Int) ≤ 5 * (k : Int) + 3 := by omega
      have z4 : (0 : Int) ≤ 5 * (k : Int) + 4 := by omega
      have i0 : 5 * k < c.size := by omega
      have i1 : 5 * k + 1 < c.size := by omega
      have i2 : 5 * k + 2 < c.size := by omega
      have i3 : 5 * k + 3 < c.size := by omega
      have i4 : 5 * k + 4 < c.size := by omega
      have q0 : (5 * (k : Int)).toNat = 5 * k := by omega
      have q1 : (5 * (k : Int) + 1).toNat = 5 * k + 1 := by omega
      have q2 : (5 * (k : Int) + 2).toNat = 5 * k + 2 := by omega
      have q3 : (5 * (k : Int) + 3).toNat = 5 * k + 3 := by omega
      have q4 : (5 * (k : Int) + 4).toNat = 5 * k + 4 := by omega
      have p0 : (5 * (k : Int)) < (c.size : Int) := by omega
      have p1 : (5 * (k : Int)) + 1 < (c.size : Int) := by omega
      have p2 : (5 * (k : Int)) + 2 < (c.size : Int) := by omega
      have p3 : (5 * (k : Int)) + 3 < (c.size : Int) := by omega
      have p4 : (5 * (k : Int)) + 4 < (c.size : Int) := by omega
      have hin : Hid (Sc.inAt c k = ⟨(c[5 * k].toNat : Int), (c[5 * k + 1].toNat : Int), (c[5 * k + 2].toNat : Int), (c[5 * k + 3].toNat : Int) + 256 * (c[5 * k + 4].toNat : Int)⟩) := by
        unfold Hid Sc.inAt; rw [byteAt_in i0, byteAt_in i1, byteAt_in i2, byteAt_in i3, byteAt_in i4]
      have u0 := c[5 * k].toNat_lt
      have u1 := c[5 * k + 1].toNat_lt
      have u2 := c[5 * k + 2].toNat_lt
      have u3 := c[5 * k + 3].toNat_lt
      have u4 := c[5 * k + 4].toNat_lt
      clear hn
      go_wp2_with fail
      go_region
      generalize (c[5 * k].toNat : Int) = a0 at *
      generalize (c[5 * k + 1].toNat : Int) = a1 at *
      generalize (c[5 * k + 2].toNat : Int) = a2 at *
      generalize (c[5 * k + 3].toNat : Int) = a3' at *
      generalize (c[5 * k + 4].toNat : Int) = a4' at *
      generalize a3' + 256 * a4' = a3 at *
      clear u0 u1 u2 u3 u4 i0 i1 i2 i3 i4 q0 q1 q2 q3 q4 p0 p1 p2 p3 z1 z2 z3 z4
      have B0 := (Blk.new wr 46 #[.int .i64 a0, .int .i64 a1, .int .i64 a2, .int .i64 a3]).drew
      have o1 := World.ownsRow.drew (hown.alloc (.cells #[.int .i64 a0, .int .i64 a1, .int .i64 a2, .int .i64 a3] 46))
      have g1 := hid (gb_drew (gb_alloc HG.out (.cells #[.int .i64 a0, .int .i64 a1, .int .i64 a2, .int .i64 a3] 46)))
      clear hown
      generalize (wr.alloc (.cells #[.int .i64 a0, .int .i64 a1, .int .i64 a2, .int .i64 a3] 46)).drew = W1 at *
      have b0 := B0.cell 0
      have b1 := B0.cell 1
      have b2 := B0.cell 2
      have b3 := B0.cell 3
      have hbl := B0.lt
      simp at b0 b1 b2 b3
      clear B0
      have hzw := g1.out.size
      go_wp2_with (first
        | (at_builtin; refine wpList_append_fits _ rfl _ _ 39 rfl w.heap.size 46 iI 4 uIn iI_eq.out iI_s w.heap.size k n (insCells (Sc.ins c k)) rfl (o1.alloc _) ⟨W1.heap.size, 0, none⟩ 1 1 [.int .i64 a0, .int .i64 a1, .int .i64 a2, .int .i64 a3] rfl rfl ?c1 ?c2 (by omega) ?_)
        | fail)
      case c1 => exact new_cells _ 46 #[.int .i64 a0, .int .i64 a1, .int .i64 a2, .int .i64 a3] _ rfl
      case c2 => intro u hu; simp at hu; rcases hu with rfl | rfl | rfl | rfl <;> rfl
      intro w2 hown2 hgrow2
      have Ho2 := hid hown2
      have Hg2 := hid (gb_grow (gb_alloc g1.out (.cells #[.int .i64 a0, .int .i64 a1, .int .i64 a2, .int .i64 a3] 46)) hgrow2 (fun j hj => by cases hj; exact Nat.le_refl _))
      clear hown2 hgrow2 o1 b0 b1 b2 b3
      go_wp2_with fail
      go_roundw
      case rel =>
        refine ⟨k + 1, by omega, by go_num, rfl, Hg2.out, ?_⟩
        have := Ho2.out
        have e : insCells (Sc.ins c (k + 1)) = insCells (Sc.ins c k) ++ [.int .i64 a0, .int .i64 a1, .int .i64 a2, .int .i64 a3] := by
          show insCells (Sc.ins c k ++ [Sc.inAt c k]) = _
          rw [insCells_snoc, hin.out]; rfl
        rw [e]
        exact this
      case measure => simp [intOf]; omega
    · have hkn : k = n := by omega
      subst hkn
      have p4 : decide (5 * (k : Int) + 4 < (c.size : Int)) = false := by simp; omega
      have Ho := hid hown
      clear hn hown
      go_wp2_with fail
      go_ret2
      exact ⟨rfl, HG.out, Ho.out⟩

set_option maxRecDepth 100000 in
set_option maxHeartbeats 1000000 in
theorem mDecode_bad (w : World) (c : ByteArray) (hc : c.size ≤ maxLen) (hb : Sc.decE c ≠ 0) :
    Calls Try.prog 41 #[.string c] w fun e w' => e = .returned (.tuple #[.slice none 0 0, .int .i64 (Sc.decE c)]) ∧ w' = w := by
  unfold maxLen at hc
  by_cases hl : 5120 < c.size
  · have hE : Hid (Sc.decE c = 1) := by unfold Hid Sc.decE; rw [if_pos hl]
    clear hb
    go_enter Try.func41, Try.ntmps41
    go_wp2_with fail
    go_ret2
    rw [hE.out]
    exact ⟨rfl, rfl⟩
  · have hm : c.size % 5 ≠ 0 := by
      intro h; apply hb; unfold Sc.decE; rw [if_neg hl, if_pos h]
    have hE : Hid (Sc.decE c = 3) := by unfold Hid Sc.decE; rw [if_neg hl, if_neg hm]
    have e2 : ((c.size : Int) % 5 != 0) = true := by simp; omega
    clear hb hm
    go_enter Try.func41, Try.ntmps41
    go_wp2_with fail
    go_ret2
    rw [hE.out]
    exact ⟨rfl, rfl⟩

/-- what Decode answers -/
theorem mDecode_any (w : World) (c : ByteArray) (hc : c.size ≤ maxLen) :
    Calls Try.prog 41 #[.string c] w fun e w' => ∃ sa, e = .returned (.tuple #[.slice sa (Sc.decL c).length (Sc.decL c).length, .int .i64 (Sc.decE c)]) ∧ w.grownBy w' none ∧ w'.ownsRow w.heap.size 46 4 (.slice sa (Sc.decL c).length (Sc.decL c).length) (Sc.decL c).length (insCells (Sc.decL c)) := by
  rcases decE_cases c with ⟨h0, h1, h2⟩ | ⟨h0, h1⟩
  · refine (mDecode_ok w c (c.size / 5) h1 h2).mono ?_
    rintro e w1 ⟨rfl, hg, ho⟩
    have e : Sc.decL c = Sc.ins c (c.size / 5) := by unfold Sc.decL; rw [if_pos h0]
    rw [h0, e, ins_len]
    exact ⟨_, rfl, hg, ho⟩
  · refine (mDecode_bad w c hc h0).mono ?_
    rintro e w1 ⟨rfl, rfl⟩
    rw [h1]
    exact ⟨none, rfl, gb_refl _ _, World.ownsRow_nil _ _ _ _⟩
end Go.Proofs.Ytldongbimhngfaa
