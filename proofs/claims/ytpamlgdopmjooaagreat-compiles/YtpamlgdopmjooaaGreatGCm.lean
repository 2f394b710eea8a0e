import Derived.Test.YtpamlgdopmjooaaGreatIp1
import Derived.Test.YtpamlgdopmjooaaGreatGRf
import Derived.Test.YtpamlgdopmjooaaGreatGIwc
import Derived.Deep.CutRange
import Derived.Test.YtpamlgdopmjooaaGreatGIp
import Derived.Test.YtpamlgdopmjooaaGreatCl7
import Derived.Test.YtpamlgdopmjooaaGreatLw3
/- Compiled: the document's walk, where it says yes. -/
namespace Go.Proofs.YtpamlgdopmjooaaGreat
open Go.RowKit
set_option linter.unusedVariables false
set_option linter.unusedSimpArgs false

/-- the error of Compile -/
def compE (pol passes : ByteArray) : Int := if (Sv.check pol).1 = 0 then (if 12 < passes.size then 10 else 0) else (Sv.check pol).1
/-- may Compile answer so, as far as a record tells? -/
structure CompOk (pol passes c : ByteArray) (e : Int) (plain r : ByteArray) : Prop where
  err : e = compE pol passes
  bad : compE pol passes ≠ 0 → c = ByteArray.empty
  sound : compE pol passes = 0 → (Sc.sound plain).1 = 0 ∧ plain.size ≤ maxLen
  good : compE pol passes = 0 → Better plain passes c r
  same : compE pol passes = 0 → r.size = 20 → (Sc.runC c r).2.2 = 0 ∧ (Sc.runC c r).1 = (Sv.judge pol r).1

set_option maxRecDepth 100000 in
set_option maxHeartbeats 4000000 in
theorem rCompiled_ok (w : World) (pol passes c : ByteArray) (e : Int) (plain r : ByteArray) (hpl : pol.size ≤ maxLen) (hps : passes.size ≤ maxLen) (hm : r.size ≤ maxLen) (hb : CompOk pol passes c e plain r) :
    Calls Tryz.prog 40 #[.string pol, .string passes, .string c, .int .i64 e, .string plain, .string r] w fun e w' => e = .returned (.bool true) ∧ w.grownBy w' none := by
  obtain ⟨rfl, h1, h2, h3, h4⟩ := hb
  have hC := hid (refCheck_any w pol hpl)
  rw [refCheck_eq] at hC
  have hJ := hid (fun w => refJudge_any w pol r hpl hm)
  unfold compE at *
  by_cases qs : (Sv.check pol).1 = 0
  · rw [if_pos qs] at h1 h2 h3 h4 ⊢
    rw [qs] at hC
    generalize (Sv.check pol).2 = S2 at *
    clear qs
    by_cases qp : 12 < passes.size
    · rw [if_pos qp] at h1 ⊢
      have hc := h1 (by decide)
      subst hc
      unfold maxLen at hps
      clear h1 h2 h3 h4 hJ
      go_enter Tryz.func40, Tryz.ntmps40
      go_wp2_with fail
      refine hC.out.mono ?_
      rintro e w1 ⟨rfl, rfl⟩
      clear hC
      go_wp2_with fail
      go_ret
      exact ⟨rfl, gb_refl _ _⟩
    · rw [if_neg qp] at h1 h2 h3 h4 ⊢
      obtain ⟨s1, s2⟩ := h2 rfl
      have hbt := h3 rfl
      have hS := hid (fun w => refSound_any w plain s2)
      rw [s1] at hS
      generalize (Sc.sound plain).2 = P2 at *
      have hB := hid (fun w => rBetter_ok w plain passes c r s2 (by omega) hm hbt)
      have hR := hid (fun w => refRun_any w c r (Nat.le_trans hbt.size s2) hm)
      have h5 := h4 rfl
      unfold maxLen at hm
      clear h1 h2 h3 h4 hbt s1
      by_cases hr : r.size = 20
      · obtain ⟨r1, r2⟩ := h5 hr
        generalize Sc.runC c r = X at *
        obtain ⟨v, n, f⟩ := X
        simp only at r1 r2 hR
        subst r1
        rw [r2] at hR
        generalize (Sv.judge pol r).1 = V at *
        generalize (Sv.judge pol r).2 = V2 at *
        have er : (((r.size : Nat) : Int) != 20) = false := by simp [hr]
        have er2 : (r.size == 20) = true := by simp [hr]
        have ev : (V == V) = true := by simp
        clear h5 r2 s2
        go_enter Tryz.func40, Tryz.ntmps40
        go_wp2_with fail
        refine hC.out.mono ?_
        rintro e w1 ⟨rfl, rfl⟩
        clear hC
        go_wp2_with fail
        refine (hS.out _).mono ?_
        rintro e w2 ⟨rfl, hg2⟩
        have G2 := hid hg2
        clear hS hg2
        go_wp2_with fail
        refine (hB.out _).mono ?_
        rintro e w3 ⟨rfl, hg3⟩
        have G3 := hid (gb_trans G2.out hg3)
        clear hB hg3 G2
        go_wp2_with fail
        refine (hJ.out _).mono ?_
        rintro e w4 ⟨rfl, rfl⟩
        clear hJ
        go_wp2_with fail
        refine (hR.out _).mono ?_
        rintro e w5 ⟨rfl, hg5⟩
        have G5 := hid (gb_trans G3.out hg5)
        clear hR hg5 G3
        go_wp2_with fail
        go_ret
        exact ⟨by simp, G5.out⟩
      · have er : (((r.size : Nat) : Int) != 20) = true := by
          have : ((r.size : Nat) : Int) ≠ 20 := by omega
          simp [this]
        have er2 : (((r.size : Nat) : Int) == 20) = false := by
          have : ((r.size : Nat) : Int) ≠ 20 := by omega
          simp [this]
        clear h5 hR hJ s2
        go_enter Tryz.func40, Tryz.ntmps40
        go_wp2_with fail
        refine hC.out.mono ?_
        rintro e w1 ⟨rfl, rfl⟩
        clear hC
        go_wp2_with fail
        refine (hS.out _).mono ?_
        rintro e w2 ⟨rfl, hg2⟩
        have G2 := hid hg2
        clear hS hg2
        go_wp2_with fail
        refine (hB.out _).mono ?_
        rintro e w3 ⟨rfl, hg3⟩
        have G3 := hid (gb_trans G2.out hg3)
        clear hB hg3 G2
        go_wp2_with fail
        go_ret
        exact ⟨rfl, G3.out⟩
  · rw [if_neg qs] at h1 ⊢
    have hc := h1 qs
    subst hc
    generalize (Sv.check pol).1 = E at *
    generalize (Sv.check pol).2 = S2 at *
    have e1 : (E == 0) = false := by simp [qs]
    have e2 : (E != 0) = true := by simp [qs]
    have e3 : (E == E) = true := by simp
    clear h1 h2 h3 h4 hJ
    go_enter Tryz.func40, Tryz.ntmps40
    go_wp2_with fail
    refine hC.out.mono ?_
    rintro e w1 ⟨rfl, rfl⟩
    clear hC
    go_wp2_with fail
    go_ret
    exact ⟨by simp, gb_refl _ _⟩
end Go.Proofs.YtpamlgdopmjooaaGreat
/- sievelaw: compile, over any Compile that keeps P9. -/
namespace Go.Proofs.YtpamlgdopmjooaaGreat
open Go.RowKit
set_option linter.unusedVariables false
set_option linter.unusedSimpArgs false

/-- what is asked of the program's Compile: out tells what it answers -/
structure CompSpec (out : ByteArray → ByteArray → ByteArray) : Prop where
  call : ∀ (w : World) (pol p : ByteArray), pol.size ≤ maxLen → p.size ≤ maxLen → Calls Tryz.prog 39 #[.string pol, .string p] w fun e w' => e = .returned (.tuple #[.string (out pol p), .int .i64 (compE pol p)]) ∧ w.grownBy w' none
  ok : ∀ pol p r, CompOk pol p (out pol p) (compE pol p) (out pol ⟨#[]⟩) r
  imp : ∀ pol p, compE pol p = 0 → Sc.impErr (out pol ⟨#[]⟩) p = 0 ∧ Sc.impOut (out pol ⟨#[]⟩) p = out pol p ∧ (out pol ⟨#[]⟩).size ≤ 5120
theorem compE_plain (pol p : ByteArray) (h : compE pol p = 0) : compE pol ⟨#[]⟩ = 0 := by
  unfold compE at *
  split at h
  · next q =>
    rw [if_pos q, if_neg]
    show ¬ 12 < 0
    omega
  · next q => exact absurd h q

set_option maxRecDepth 100000 in
set_option maxHeartbeats 8000000 in
theorem lCompile_any (out : ByteArray → ByteArray → ByteArray) (hs : CompSpec out) (w : World) (o : Opr) (ho : OprOk o) :
    Calls Tryz.prog 18 #[.agg (opCells o)] w fun e w' => e = .returned (.bool true) ∧ w.grownBy w' none := by
  obtain ⟨kind, n, s, p, r, la, ll, lc⟩ := o
  obtain ⟨h1, ⟨h2, n0, n1⟩, h3⟩ := ho
  simp only at h1 h2 h3 n0 n1
  simp only [opCells]
  have hC1 := hid (fun w => hs.call w s p h1 h2)
  have hC2 := hid (fun w => hs.call w s ⟨#[]⟩ h1 (by unfold maxLen; show 0 ≤ _; omega))
  have hRf := hid (fun w => rCompiled_ok w s p (out s p) (compE s p) (out s ⟨#[]⟩) r h1 h2 h3 (hs.ok s p r))
  have hNm := hid (fun (w : World) (a : Int) => num_any w a)
  have hBx := hid (Blk.new w 31 #[.int .i64 kind, .int .i64 n, .string s, .string p, .string r, .slice la ll lc])
  have G0 := hid (gb_alloc (gb_refl w none) (.cells #[.int .i64 kind, .int .i64 n, .string s, .string p, .string r, .slice la ll lc] 31))
  have HI := hid (hs.imp s p)
  have HP := hid (compE_plain s p)
  have HIm := hid (fun (hE : compE s p = 0) w => improve_any w (out s ⟨#[]⟩) p (by have := (hs.imp s p hE).2.2; unfold maxLen; omega) h2)
  clear hs
  generalize compE s p = E at *
  generalize compE s ⟨#[]⟩ = E0 at *
  generalize out s p = C at *
  generalize out s ⟨#[]⟩ = PL at *
  clear h1 h2 h3
  go_enter Tryz.func18, Tryz.ntmps18
  go_wp2_with fail
  refine (hC1.out _).mono ?_
  rintro e w1 ⟨rfl, hg1⟩
  have B1 := hid (hBx.out.keep hg1 (by simp))
  have G1 := hid (gb_trans G0.out hg1)
  have b2 := B1.out.cell 2
  simp at b2
  clear hg1 hBx G0 hC1
  go_wp2_with fail
  refine (hC2.out _).mono ?_
  rintro e w2 ⟨rfl, hg2⟩
  have B2 := hid (B1.out.keep hg2 (by simp))
  have G2 := hid (gb_trans G1.out hg2)
  clear b2
  have b2 := B2.out.cell 2
  have b3 := B2.out.cell 3
  have b4 := B2.out.cell 4
  simp at b2 b3 b4
  clear hg2 B1 G1 hC2
  go_upto_region 3 with fail
  go_cut [7] from 24 (fun v wc => v = .bool true ∧ w.grownBy wc none ∧ Blk wc w.heap.size 31 #[.int .i64 kind, .int .i64 n, .string s, .string p, .string r, .slice la ll lc])
  case first =>
    clear HI HP HIm
    go_region_with (first | (go_at_call 21; refine (hNm.out _ _).mono ?_; rintro e w' ⟨rfl, rfl⟩) | (go_at_call 40; refine (hRf.out _).mono ?_; rintro e w3 ⟨rfl, hg3⟩))
    all_goals
      go_wp2_with fail
      go_meet
      exact ⟨rfl, gb_trans (gb_drew G2.out) hg3, Blk.keep B2.out.drew hg3 (by simp)⟩
  case rest =>
    obtain ⟨rfl, hgc, hbc⟩ := hcut
    have GC := hid hgc
    have BC := hid hbc
    clear hgc hbc B2 G2 b2 b3 b4 hRf
    by_cases hE : E = 0
    · have hI2 := HIm.out hE
      obtain ⟨i1, i2, i3⟩ := HI.out hE
      have hE0 := HP.out hE
      rw [i1, i2] at hI2
      have HI2 := hid hI2
      subst hE hE0
      clear HI HP HIm hI2 i1 i2
      have b3 := BC.out.cell 3
      simp at b3
      go_wp2_with fail
      refine (hNm.out _ _).mono ?_
      rintro e w3 ⟨rfl, rfl⟩
      go_wp2_with fail
      refine (HI2.out _).mono ?_
      rintro e w4 ⟨rfl, hg4⟩
      have G4 := hid (gb_trans GC.out hg4)
      clear HI2 hg4 GC BC
      go_wp2_with fail
      refine (hNm.out _ _).mono ?_
      rintro e w5 ⟨rfl, rfl⟩
      go_wp2_with fail
      refine (hNm.out _ _).mono ?_
      rintro e w5 ⟨rfl, rfl⟩
      go_wp2_with fail
      go_ret
      exact ⟨by simp, G4.out⟩
    · have e1 : (E == 0) = false := by simp [hE]
      have e2 : (E != 0) = true := by simp [hE]
      clear HI HP HIm hE
      go_wp2_with fail
      refine (hNm.out _ _).mono ?_
      rintro e w3 ⟨rfl, rfl⟩
      go_wp2_with fail
      go_ret
      exact ⟨by simp, GC.out⟩
end Go.Proofs.YtpamlgdopmjooaaGreat
/- Compiles and All: the walks, over any Compile that keeps P9. -/
namespace Go.Proofs.YtpamlgdopmjooaaGreat
open Go.RowKit
set_option linter.unusedVariables false
set_option linter.unusedSimpArgs false

set_option maxRecDepth 100000 in
set_option maxHeartbeats 1000000 in
theorem plays_compile (out : ByteArray → ByteArray → ByteArray) (hs : CompSpec out) (w : World) (bb : Nat) (o : Opr) (hk : o.kind = 8) (ho : OprOk o) :
    Calls Tryz.prog 12 #[.pointer (some ⟨bb, 0, none⟩), .agg (opCells o)] w fun e w' => e = .returned (.bool true) ∧ w.grownBy w' none := by
  have hT := hid (fun w => lCompile_any out hs w o ho)
  obtain ⟨kind, n, s, p, r, la, ll, lc⟩ := o
  simp only at hk
  subst hk
  simp only [opCells] at hT ⊢
  clear ho hs
  go_enter Tryz.func12, Tryz.ntmps12
  go_wp2_with fail
  refine (hT.out _).mono ?_
  rintro e w1 ⟨rfl, hg⟩
  clear hT
  go_wp2_with fail
  go_ret
  exact ⟨rfl, gb_unalloc hg⟩
/-- a step that leaves the book -/
theorem step_quiet {base bb : Nat} {fs : List (Option Addr × Nat)} {w : World} (h : BookInv w base bb fs) (hbs : base ≤ w.heap.size) {e : Ending} {w' : World} (he : e = .returned (.bool true) ∧ w.grownBy w' none) : StepEnd base bb fs w e w' :=
  ⟨he.1, ⟨fs, h.keep he.2, by omega⟩, below_none he.2 hbs⟩
theorem plays_all (out : ByteArray → ByteArray → ByteArray) (hs : CompSpec out) (w : World) (base bb : Nat) (fs : List (Option Addr × Nat)) (o : Opr) (hk : 1 ≤ o.kind) (hk2 : o.kind ≤ 8) (ho : OprOk2 w o) (h : BookInv w base bb fs) (hn : (fs.length + 1) * 24 ≤ 140737488355328) (hbb : base ≤ bb) (hbs : base ≤ w.heap.size) :
    Calls Tryz.prog 12 #[.pointer (some ⟨bb, 0, none⟩), .agg (opCells o)] w (StepEnd base bb fs w) := by
  have hc : o.kind = 1 ∨ o.kind = 2 ∨ (3 ≤ o.kind ∧ o.kind ≤ 4) ∨ o.kind = 5 ∨ o.kind = 6 ∨ o.kind = 7 ∨ o.kind = 8 := by omega
  rcases hc with q | q | q | q | q | q | q
  · exact (plays_check w bb o q ho.1).mono fun e w' he => step_quiet h hbs he
  · exact (plays_judge w bb o q ho.1).mono fun e w' he => step_quiet h hbs he
  · exact plays_codes w base bb fs o q.1 q.2 ho h hn hbb hbs
  · exact (plays_sound w bb o q ho.1).mono fun e w' he => step_quiet h hbs he
  · exact (plays_run w bb o q ho.1).mono fun e w' he => step_quiet h hbs he
  · exact (plays_improve w bb o q ho.1).mono fun e w' he => step_quiet h hbs he
  · exact (plays_compile out hs w bb o q ho.1).mono fun e w' he => step_quiet h hbs he
end Go.Proofs.YtpamlgdopmjooaaGreat
