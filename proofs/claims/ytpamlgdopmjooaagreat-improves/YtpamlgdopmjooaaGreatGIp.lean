import Derived.Test.YtpamlgdopmjooaaGreatIp1
import Derived.Test.YtpamlgdopmjooaaGreatGIwc
import Derived.Deep.CutRange
/- sievelaw: pick, improve. -/
namespace Go.Proofs.YtpamlgdopmjooaaGreat
open Go.RowKit
set_option linter.unusedVariables false
set_option linter.unusedSimpArgs false

def lpk (c n : Int) : Int := (if c < 0 then -(c + 1) else c) % n
theorem lpk_range (c n : Int) (hn : 0 < n) : 0 ≤ lpk c n ∧ lpk c n < n := by
  unfold lpk; exact ⟨Int.emod_nonneg _ (by omega), Int.emod_lt_of_pos _ hn⟩
theorem lRet {a b : Int} (h : a = b) : (Ending.returned (.int .i64 a)) = .returned (.int .i64 b) := by rw [h]
set_option maxHeartbeats 1000000 in
theorem lPick_any (w : World) (c n : Int) (h0 : -9223372036854775808 ≤ c) (h1 : c ≤ 9223372036854775807) (hn : 0 < n) (hn1 : n ≤ 9223372036854775807) :
    Calls Tryz.prog 38 #[.int .i64 c, .int .i64 n] w fun e w' => e = .returned (.int .i64 (lpk c n)) ∧ w' = w := by
  have hne : (n == 0) = false := by simp; omega
  by_cases hc : c < 0
  · have hv : Hid (lpk c n = (-(c + 1)) % n) := by unfold Hid lpk; rw [if_pos hc]
    go_enter Tryz.func38, Tryz.ntmps38
    go_wp2
    go_ret
    exact ⟨by rw [hv.out]; exact lRet (by rw [← Int.neg_tmod, Int.tmod_eq_emod_of_nonneg (by omega)]), rfl⟩
  · have hv : Hid (lpk c n = c % n) := by unfold Hid lpk; rw [if_neg hc]
    go_enter Tryz.func38, Tryz.ntmps38
    go_wp2
    go_ret
    exact ⟨by rw [hv.out]; rfl, rfl⟩
theorem byteAt_ext (p : ByteArray) (lo hi i : Nat) (h1 : hi ≤ p.size) (h2 : lo + i < hi) : Sv.byteAt (p.extract lo hi) i = Sv.byteAt p (lo + i) := by
  have hs : (p.extract lo hi).size = hi - lo := by rw [ByteArray.size_extract]; omega
  rw [byteAt_in (by omega), byteAt_in (by omega)]
  congr 2
  simp [ByteArray.getElem_extract]
/-- passes cut in two -/
theorem imp_cut (p : ByteArray) (k : Nat) (hk : k ≤ p.size) (L : List Sc.In) : Sc.impL (p.extract k p.size) (Sc.impL (p.extract 0 k) L) = Sc.impL p L := by
  have s1 : (p.extract 0 k).size = k := by rw [ByteArray.size_extract]; omega
  have s2 : (p.extract k p.size).size = p.size - k := by rw [ByteArray.size_extract]; omega
  have h1 : ∀ n, n ≤ k → Sc.impN (p.extract 0 k) L n = Sc.impN p L n := by
    intro n
    induction n with
    | zero => intro _; rfl
    | succ n ih =>
      intro h
      simp only [Sc.impN]
      rw [ih (by omega), byteAt_ext p 0 k n hk (by omega), Nat.zero_add]
  have h2 : ∀ n, n ≤ p.size - k → Sc.impN (p.extract k p.size) (Sc.impL (p.extract 0 k) L) n = Sc.impN p L (k + n) := by
    intro n
    induction n with
    | zero =>
      intro _
      show Sc.impL (p.extract 0 k) L = Sc.impN p L (k + 0)
      unfold Sc.impL
      rw [s1, Nat.add_zero]
      exact h1 k (Nat.le_refl _)
    | succ n ih =>
      intro h
      rw [← Nat.add_assoc]
      simp only [Sc.impN]
      rw [ih (by omega), byteAt_ext p k p.size n (Nat.le_refl _) (by omega)]
  have := h2 (p.size - k) (Nat.le_refl _)
  have e : k + (p.size - k) = p.size := by omega
  rw [e] at this
  unfold Sc.impL at this ⊢
  rw [s2]
  exact this
theorem cut_ok (s p : ByteArray) (h : Sc.impErr s p = 0) (k : Nat) (hk : k ≤ p.size) : Sc.impErr s (p.extract 0 k) = 0 ∧ Sc.impErr (Sc.impOut s (p.extract 0 k)) (p.extract k p.size) = 0 ∧ Sc.impOut (Sc.impOut s (p.extract 0 k)) (p.extract k p.size) = Sc.impOut s p ∧ (Sc.impOut s (p.extract 0 k)).size ≤ 5120 := by
  obtain ⟨h1, h2, h3, h4, h5, h6, h7⟩ := impOut_sound s p h
  have s1 : (p.extract 0 k).size = k := by rw [ByteArray.size_extract]; omega
  have s2 : (p.extract k p.size).size = p.size - k := by rw [ByteArray.size_extract]; omega
  have e1 : Sc.impErr s (p.extract 0 k) = 0 := by unfold Sc.impErr; rw [if_pos h1, if_neg (by omega)]
  obtain ⟨a1, a2, a3, a4, a5, a6, a7⟩ := impOut_sound s (p.extract 0 k) e1
  have e2 : Sc.impErr (Sc.impOut s (p.extract 0 k)) (p.extract k p.size) = 0 := by unfold Sc.impErr; rw [a6, if_pos rfl, if_neg (by omega)]
  refine ⟨e1, e2, ?_, ?_⟩
  · rw [h5]
    unfold Sc.impOut
    rw [if_pos e1]
    have e3 : Sc.impErr (bytesOf (Sc.impL (p.extract 0 k) (Sc.decL s))) (p.extract k p.size) = 0 := by rw [← a5]; exact e2
    rw [if_pos e3, ← a5, a7, imp_cut p k hk]
  · rw [a5, bytesOf_size]
    have := a4.sound.1.1
    omega

set_option maxRecDepth 100000 in
set_option maxHeartbeats 8000000 in
theorem lImprove_any (w : World) (o : Opr) (ho : OprOk o) :
    Calls Tryz.prog 17 #[.agg (opCells o)] w fun e w' => e = .returned (.bool true) ∧ w.grownBy w' none := by
  obtain ⟨kind, n, s, p, r, la, ll, lc⟩ := o
  obtain ⟨h1, ⟨h2, n0, n1⟩, h3⟩ := ho
  simp only at h1 h2 h3 n0 n1
  simp only [opCells]
  have hIm := hid (fun w => improve_any w s p h1 h2)
  have hRf := hid (fun w => rImproved_ok w s p (Sc.impOut s p) (Sc.impErr s p) r h1 h2 h3 (imp_ok s p r))
  have hNm := hid (fun (w : World) (a : Int) => num_any w a)
  have hBx := hid (Blk.new w 31 #[.int .i64 kind, .int .i64 n, .string s, .string p, .string r, .slice la ll lc])
  have G0 := hid (gb_alloc (gb_refl w none) (.cells #[.int .i64 kind, .int .i64 n, .string s, .string p, .string r, .slice la ll lc] 31))
  have Hcut := hid (fun (hE : Sc.impErr s p = 0) => cut_ok s p hE)
  have Hp12 := hid (fun (hE : Sc.impErr s p = 0) => (impOut_sound s p hE).2.1)
  have HI := hid (fun w (p1 : ByteArray) (hp1 : p1.size ≤ maxLen) => improve_any w s p1 h1 hp1)
  generalize Sc.impErr s p = E at *
  generalize Sc.impOut s p = C at *
  clear h1 h2 h3
  go_enter Tryz.func17, Tryz.ntmps17
  go_wp2_with fail
  refine (hIm.out _).mono ?_
  rintro e w1 ⟨rfl, hg1⟩
  have B1 := hid (hBx.out.keep hg1 (by simp))
  have G1 := hid (gb_trans G0.out hg1)
  have b2 := B1.out.cell 2
  have b3 := B1.out.cell 3
  simp at b2 b3
  clear hg1 hBx G0
  go_wp2_with fail
  refine (hIm.out _).mono ?_
  rintro e w2 ⟨rfl, hg2⟩
  have B2 := hid (B1.out.keep hg2 (by simp))
  have G2 := hid (gb_trans G1.out hg2)
  clear b2 b3
  have b2 := B2.out.cell 2
  have b3 := B2.out.cell 3
  have b4 := B2.out.cell 4
  simp at b2 b3 b4
  clear hg2 B1 G1 hIm
  go_upto_region 3 with fail
  go_cut [7] from 26 (fun v wc => v = .bool true ∧ w.grownBy wc none ∧ Blk wc w.heap.size 31 #[.int .i64 kind, .int .i64 n, .string s, .string p, .string r, .slice la ll lc])
  case first =>
    clear Hcut Hp12 HI
    go_region_with (first | (go_at_call 21; refine (hNm.out _ _).mono ?_; rintro e w' ⟨rfl, rfl⟩) | (go_at_call 37; refine (hRf.out _).mono ?_; rintro e w3 ⟨rfl, hg3⟩))
    all_goals
      go_wp2_with fail
      go_meet
      exact ⟨rfl, gb_trans (gb_drew G2.out) hg3, Blk.keep B2.out.drew hg3 (by simp)⟩
  case rest =>
    obtain ⟨rfl, hgc, hbc⟩ := hcut
    have GC := hid hgc
    have BC := hid hbc
    clear hgc hbc B2 G2 b2 b3 b4 hRf
    by_cases hE : E = 0
    · subst hE
      have hp12 := Hp12.out rfl
      have hpk := lpk_range n ((p.size : Int) + 1) (by omega)
      have hPk := hid (fun w => lPick_any w n ((p.size : Int) + 1) n0 n1 (by omega) (by omega))
      obtain ⟨k, hk⟩ := Int.eq_ofNat_of_zero_le hpk.1
      rw [hk] at hPk hpk
      have hkp : k ≤ p.size := by omega
      have hkp' : (k : Int) ≤ (p.size : Int) := by omega
      obtain ⟨c1, c2, c3, c4⟩ := Hcut.out rfl k hkp
      have hI1 := hid (fun w => HI.out w (p.extract 0 k) (by rw [ByteArray.size_extract]; unfold maxLen; omega))
      rw [c1] at hI1
      have hI2 := hid (fun w => improve_any w (Sc.impOut s (p.extract 0 k)) (p.extract k p.size) (by unfold maxLen; omega) (by rw [ByteArray.size_extract]; unfold maxLen; omega))
      rw [c2, c3] at hI2
      generalize Sc.impOut s (p.extract 0 k) = M at *
      clear Hcut Hp12 HI c1 c2 c3 hk
      have b1 := BC.out.cell 1
      have b2 := BC.out.cell 2
      have b3 := BC.out.cell 3
      simp at b1 b2 b3
      go_wp2_with fail
      refine (hNm.out _ _).mono ?_
      rintro e w3 ⟨rfl, rfl⟩
      go_wp2_with fail
      refine (hNm.out _ _).mono ?_
      rintro e w3 ⟨rfl, rfl⟩
      go_wp2_with fail
      refine (hNm.out _ _).mono ?_
      rintro e w3 ⟨rfl, rfl⟩
      go_wp2_with fail
      refine (hPk.out _).mono ?_
      rintro e w3 ⟨rfl, rfl⟩
      clear hPk
      go_upto_region 9 with fail
      go_cut [6, 9] from 60 (fun v6 v9 wc => v6 = .int .i64 0 ∧ v9 = .string M ∧ w.grownBy wc none ∧ Blk wc w.heap.size 31 #[.int .i64 kind, .int .i64 n, .string s, .string p, .string r, .slice la ll lc])
      case first =>
        clear hI2
        go_region_with (go_at_call 36; refine (hI1.out _).mono ?_; rintro e w4 ⟨rfl, hg4⟩)
        all_goals
          go_wp2_with fail
          go_meet
          exact ⟨rfl, rfl, gb_trans (gb_drew GC.out) hg4, Blk.keep BC.out.drew hg4 (by simp)⟩
      case rest =>
        obtain ⟨rfl, rfl, hgd, hbd⟩ := hcut
        have GD := hid hgd
        clear b1 b2 b3
        have b3 := hbd.cell 3
        simp at b3
        clear hgd hbd hI1 GC BC
        go_wp2_with fail
        refine (hNm.out _ _).mono ?_
        rintro e w5 ⟨rfl, rfl⟩
        go_wp2_with fail
        refine (hI2.out _).mono ?_
        rintro e w6 ⟨rfl, hg6⟩
        have G6 := hid (gb_trans GD.out hg6)
        clear hI2 hg6 GD
        go_wp2_with fail
        refine (hNm.out _ _).mono ?_
        rintro e w7 ⟨rfl, rfl⟩
        go_wp2_with fail
        go_ret
        exact ⟨by simp, G6.out⟩
    · have e1 : (E == 0) = false := by simp [hE]
      have e2 : (E != 0) = true := by simp [hE]
      have e3 : (E == E) = true := by simp
      have e4 : (E != E) = false := by simp
      clear Hcut Hp12 HI hE
      go_wp2_with fail
      refine (hNm.out _ _).mono ?_
      rintro e w3 ⟨rfl, rfl⟩
      go_wp2_with fail
      refine (hNm.out _ _).mono ?_
      rintro e w3 ⟨rfl, rfl⟩
      go_wp2_with fail
      refine (hNm.out _ _).mono ?_
      rintro e w3 ⟨rfl, rfl⟩
      go_wp2_with fail
      go_ret
      exact ⟨by simp, GC.out⟩
end Go.Proofs.YtpamlgdopmjooaaGreat
/- Improves: the walk. -/
namespace Go.Proofs.YtpamlgdopmjooaaGreat
open Go.RowKit
set_option linter.unusedVariables false
set_option linter.unusedSimpArgs false

set_option maxRecDepth 100000 in
set_option maxHeartbeats 1000000 in
theorem plays_improve (w : World) (bb : Nat) (o : Opr) (hk : o.kind = 7) (ho : OprOk o) :
    Calls Tryz.prog 12 #[.pointer (some ⟨bb, 0, none⟩), .agg (opCells o)] w fun e w' => e = .returned (.bool true) ∧ w.grownBy w' none := by
  have hT := hid (fun w => lImprove_any w o ho)
  obtain ⟨kind, n, s, p, r, la, ll, lc⟩ := o
  simp only at hk
  subst hk
  simp only [opCells] at hT ⊢
  clear ho
  go_enter Tryz.func12, Tryz.ntmps12
  go_wp2_with fail
  refine (hT.out _).mono ?_
  rintro e w1 ⟨rfl, hg⟩
  clear hT
  go_wp2_with fail
  go_ret
  exact ⟨rfl, gb_unalloc hg⟩

set_option maxHeartbeats 1000000 in
theorem improves_walk (w : World) (sa : Option Addr) (sc : Nat) (ops : List Opr) (hops : OpsAt w sa ops) (hlen : ops.length ≤ maxLen) :
    Calls Tryz.prog 8 #[.slice sa ops.length sc] w fun e w' => e = .returned (.bool true) ∧ Below w.heap.size w w' := by
  have hU := upTo_any w sa sc ops hops hlen 7 7 (fun w bb o h1 h2 ho => plays_improve w bb o (by omega) ho)
  clear hops
  go_enter Tryz.func8, Tryz.ntmps8
  go_wp2_with fail
  refine hU.mono ?_
  rintro e w1 ⟨rfl, hg⟩
  clear hU
  go_wp2_with fail
  go_ret
  exact ⟨rfl, gb_below hg⟩
end Go.Proofs.YtpamlgdopmjooaaGreat
