/- better, Improved: the document's walks, where they say yes. -/
import Derived.Test.YtpamlgdopmjooaaGreatGDnb
import Derived.Test.YtpamlgdopmjooaaGreatDn9
namespace Go.Proofs.YtpamlgdopmjooaaGreat
open Go.RowKit
set_option linter.unusedVariables false
set_option linter.unusedSimpArgs false

theorem rDone_ok (w : World) (sa : Option Addr) (sc : Nat) (L : List Sc.In) (hI : InsAt w sa L) (hF : Fine L) (hpos : 0 < L.length) (p : Int) (hp : p = 100 ∨ p = 106 ∨ p = 108 ∨ p = 107) (ht : p = 106 → Sc.tidyB L = true) (hd : p ≠ 106 → ∀ B O, ReachB L B → Sc.KnownB L B (p == 107) O → Sc.doneBy p L B O) :
    Calls Tryz.prog 73 #[.slice sa L.length sc, .int .u8 p] w fun e w' => e = .returned (.bool true) ∧ w.grownBy w' none := by
  have fin : ∀ q : Int, q ≠ 106 → p = q → Calls Tryz.prog 73 #[.slice sa L.length sc, .int .u8 q] w (DoneEnd q L w) → Calls Tryz.prog 73 #[.slice sa L.length sc, .int .u8 p] w fun e w' => e = .returned (.bool true) ∧ w.grownBy w' none := by
    intro q h6 e h
    subst e
    refine h.mono ?_
    rintro e w' ⟨r, B, O, rfl, hg, hR, hK, hr⟩
    have := hr.2 (hd h6 B O hR hK)
    subst this
    exact ⟨rfl, hg⟩
  rcases hp with h | h | h | h
  · exact fin 100 (by decide) h (rDone_100 w sa sc L hI hF hpos)
  · subst h
    refine (rDone_j w sa sc L hI hF).mono ?_
    rintro e w' ⟨rfl, hg⟩
    rw [ht rfl]
    exact ⟨rfl, hg⟩
  · exact fin 108 (by decide) h (rDone_108 w sa sc L hI hF hpos)
  · exact fin 107 (by decide) h (rDone_107 w sa sc L hI hF hpos)
theorem lastN_pass (p : ByteArray) : ∀ n, Sc.lastN p n = 0 ∨ (Sc.lastN p n = 100 ∨ Sc.lastN p n = 106 ∨ Sc.lastN p n = 108 ∨ Sc.lastN p n = 107) := by
  intro n
  induction n with
  | zero => exact Or.inl rfl
  | succ n ih =>
    unfold Sc.lastN
    split
    · next h =>
      unfold Sc.isPass at h
      simp at h
      right
      omega
    · exact ih
/-- may the code stand in the other's place, as far as a record tells? -/
structure Better (code passes c r : ByteArray) : Prop where
  sound : (Sc.sound c).1 = 0
  size : c.size ≤ code.size
  none : Sc.lastP passes = 0 → c = code
  tidy : Sc.lastP passes = 106 → Sc.tidyB (Sc.decL c) = true
  done : Sc.lastP passes = 100 ∨ Sc.lastP passes = 108 ∨ Sc.lastP passes = 107 → ∀ B O, ReachB (Sc.decL c) B → Sc.KnownB (Sc.decL c) B (Sc.lastP passes == 107) O → Sc.doneBy (Sc.lastP passes) (Sc.decL c) B O
  err : (Sc.runC code r).2.2 = (Sc.runC c r).2.2
  run : (Sc.runC code r).2.2 = 0 → (Sc.runC code r).1 = (Sc.runC c r).1 ∧ (Sc.runC c r).2.1 ≤ (Sc.runC code r).2.1

set_option maxRecDepth 100000 in
set_option maxHeartbeats 4000000 in
theorem rBetter_ok (w : World) (code passes c r : ByteArray) (hcd : code.size ≤ maxLen) (hps : passes.size ≤ 1000) (hm : r.size ≤ maxLen) (hb : Better code passes c r) :
    Calls Tryz.prog 55 #[.string code, .string passes, .string c, .string r] w fun e w' => e = .returned (.bool true) ∧ w.grownBy w' none := by
  have hc : c.size ≤ maxLen := Nat.le_trans hb.size hcd
  have hS := hid (refSound_any w c hc)
  rw [hb.sound] at hS
  have hLa := hid (fun w => rLast_any w passes hps)
  have hDe := hid (fun w => refDecode_any w c hc)
  have hR1 := hid (fun w => refRun_any w code r hcd hm)
  have hR2 := hid (fun w => refRun_any w c r hc hm)
  have hfine := fine_of c hb.sound
  have HF := hid hfine.1
  have hpos := hfine.2
  have hsz := hb.size
  have hlp := lastN_pass passes passes.size
  have hlp2 : Sc.lastP passes = 0 ∨ (Sc.lastP passes = 100 ∨ Sc.lastP passes = 106 ∨ Sc.lastP passes = 108 ∨ Sc.lastP passes = 107) := hlp
  have HB := hid hb
  generalize (Sc.sound c).2 = S2 at *
  clear hfine hlp hb
  unfold maxLen at hcd hc
  by_cases q0 : Sc.lastP passes = 0
  · have hcc := HB.out.none q0
    rw [q0] at hLa
    subst hcc
    clear HB hDe hR1 hR2 HF hpos hlp2 q0
    go_enter Tryz.func55, Tryz.ntmps55
    go_wp2_with fail
    refine hS.out.mono ?_
    rintro e w1 ⟨rfl, hg1⟩
    have G1 := hid hg1
    clear hS hg1
    go_wp2_with fail
    refine (hLa.out _).mono ?_
    rintro e w2 ⟨rfl, rfl⟩
    clear hLa
    go_wp2_with fail
    go_ret
    exact ⟨rfl, G1.out⟩
  · have hp := hlp2.resolve_left q0
    have hDo := hid (fun (w : World) (sa : Option Addr) (sc : Nat) (hI : InsAt w sa (Sc.decL c)) => rDone_ok w sa sc (Sc.decL c) hI HF.out hpos (Sc.lastP passes) hp HB.out.tidy (fun h => HB.out.done (by omega)))
    have her := HB.out.err
    have hrn := HB.out.run
    have hp2 : Hid (0 ≤ Sc.lastP passes ∧ Sc.lastP passes ≤ 255) := by unfold Hid; omega
    clear HB hp hlp2
    generalize Sc.lastP passes = P at *
    have e0 : (P == 0) = false := by simp [q0]
    generalize Sc.decL c = L at *
    generalize Sc.decE c = DE at *
    clear HF
    generalize (Sc.runC code r) = A at *
    generalize (Sc.runC c r) = C at *
    obtain ⟨v, n, f⟩ := A
    obtain ⟨v', m, g⟩ := C
    simp only at her hrn hR1 hR2
    subst her
    clear q0
    go_enter Tryz.func55, Tryz.ntmps55
    go_wp2_with fail
    refine hS.out.mono ?_
    rintro e w1 ⟨rfl, hg1⟩
    have G1 := hid hg1
    clear hS hg1
    go_wp2_with fail
    refine (hLa.out _).mono ?_
    rintro e w2 ⟨rfl, rfl⟩
    clear hLa
    go_wp2_with fail
    refine (hDe.out _).mono ?_
    rintro e w3 ⟨vv, rfl, hg3, ho3⟩
    obtain ⟨sa, sc, rfl⟩ := owns_slice ho3
    have hDo2 := hid (hDo.out w3 sa sc (InsAt.of_own rfl ho3))
    have G3 := hid (gb_trans G1.out hg3)
    clear hDe hDo hg3 ho3 G1
    go_wp2_with fail
    refine hDo2.out.mono ?_
    rintro e w4 ⟨rfl, hg4⟩
    have G4 := hid (gb_trans G3.out hg4)
    clear hDo2 hg4 G3
    go_wp2_with fail
    refine (hR1.out _).mono ?_
    rintro e w5 ⟨rfl, hg5⟩
    have G5 := hid (gb_trans G4.out hg5)
    clear hR1 hg5 G4
    go_wp2_with fail
    refine (hR2.out _).mono ?_
    rintro e w6 ⟨rfl, hg6⟩
    have G6 := hid (gb_trans G5.out hg6)
    clear hR2 hg6 G5
    by_cases qf : f = 0
    · subst qf
      obtain ⟨h1, h2⟩ := hrn rfl
      subst h1
      have e1 : (v == v) = true := by simp
      have e2 : decide (m ≤ n) = true := by simp [h2]
      clear hrn
      go_wp2_with fail
      go_ret
      exact ⟨rfl, G6.out⟩
    · have e1 : (f != 0) = true := by simp [qf]
      have e2 : (f == f) = true := by simp
      clear hrn qf
      go_wp2_with fail
      go_ret
      exact ⟨rfl, G6.out⟩

/-- the error of Improve -/
def impE (code passes : ByteArray) : Int := if (Sc.sound code).1 = 0 then (if 12 < passes.size then 10 else 0) else (Sc.sound code).1
/-- may Improve answer so, as far as a record tells? -/
structure ImpOk (code passes c : ByteArray) (e : Int) (r : ByteArray) : Prop where
  err : e = impE code passes
  bad : impE code passes ≠ 0 → c = ByteArray.empty
  good : impE code passes = 0 → Better code passes c r

set_option maxRecDepth 100000 in
set_option maxHeartbeats 4000000 in
theorem rImproved_ok (w : World) (code passes c : ByteArray) (e : Int) (r : ByteArray) (hcd : code.size ≤ maxLen) (hps : passes.size ≤ maxLen) (hm : r.size ≤ maxLen) (hb : ImpOk code passes c e r) :
    Calls Tryz.prog 37 #[.string code, .string passes, .string c, .int .i64 e, .string r] w fun e w' => e = .returned (.bool true) ∧ w.grownBy w' none := by
  obtain ⟨rfl, h1, h2⟩ := hb
  have hS := hid (refSound_any w code hcd)
  unfold impE at *
  by_cases qs : (Sc.sound code).1 = 0
  · rw [if_pos qs] at h1 h2 ⊢
    rw [qs] at hS
    generalize (Sc.sound code).2 = S2 at *
    clear qs
    by_cases qp : 12 < passes.size
    · rw [if_pos qp] at h1 ⊢
      have hc := h1 (by decide)
      subst hc
      have hps2 := hps
      unfold maxLen at hps2
      clear h1 h2
      go_enter Tryz.func37, Tryz.ntmps37
      go_wp2_with fail
      refine hS.out.mono ?_
      rintro e w1 ⟨rfl, hg1⟩
      have G1 := hid hg1
      clear hS hg1
      go_wp2_with fail
      go_ret
      exact ⟨rfl, G1.out⟩
    · rw [if_neg qp] at h1 h2 ⊢
      have hB := hid (fun w => rBetter_ok w code passes c r hcd (by omega) hm (h2 rfl))
      clear h1 h2
      go_enter Tryz.func37, Tryz.ntmps37
      go_wp2_with fail
      refine hS.out.mono ?_
      rintro e w1 ⟨rfl, hg1⟩
      have G1 := hid hg1
      clear hS hg1
      go_wp2_with fail
      refine (hB.out _).mono ?_
      rintro e w2 ⟨rfl, hg2⟩
      have G2 := hid (gb_trans G1.out hg2)
      clear hB hg2 G1
      go_wp2_with fail
      go_ret
      exact ⟨rfl, G2.out⟩
  · rw [if_neg qs] at h1 ⊢
    have hc := h1 qs
    subst hc
    generalize (Sc.sound code).1 = E at *
    generalize (Sc.sound code).2 = S2 at *
    have e1 : (E == 0) = false := by simp [qs]
    have e2 : (E != 0) = true := by simp [qs]
    have e3 : (E == E) = true := by simp
    clear h1 h2
    go_enter Tryz.func37, Tryz.ntmps37
    go_wp2_with fail
    refine hS.out.mono ?_
    rintro e w1 ⟨rfl, hg1⟩
    have G1 := hid hg1
    clear hS hg1
    go_wp2_with fail
    go_ret
    exact ⟨rfl, G1.out⟩
end Go.Proofs.YtpamlgdopmjooaaGreat
