/- A run: the program's walk. -/
import Derived.Test.YtibgffbcbhphdaaMd3
import Derived.Test.YtibgffbcbhphdaaMd5
namespace Go.Proofs.Ytibgffbcbhphdaa
open Go.RowKit
set_option linter.unusedVariables false
set_option linter.unusedSimpArgs false

theorem hop_step (r : ByteArray) (x : Sc.In) (m : Sc.Mc) : Sc.hop x (Sc.stepM r x m).a = Sc.hop x m.a := by
  obtain ⟨op, t, f, k⟩ := x
  by_cases h1 : op = 10
  · subst h1; rfl
  · by_cases h2 : Sc.isTest op = true
    · have hop : 11 ≤ op ∧ op ≤ 14 := by rw [isTest_iff] at h2; simpa using h2
      have e : (Sc.stepM r ⟨op, t, f, k⟩ m).a = m.a := by
        unfold Sc.stepM
        rw [if_neg (by simp only; omega), if_neg (by simp only; omega), if_neg (by simp only; omega), if_neg (by simp only; omega)]
        simp only
        unfold Sc.becomes
        rw [if_neg (by simp only; omega), if_neg (by simp only; omega), if_neg (by simp only; omega), if_neg (by simp only; omega), if_neg (by simp only; omega)]
      rw [e]
    · unfold Sc.hop
      simp only
      rw [if_neg h1, if_neg h2, if_neg h1, if_neg h2]
theorem hop_rng (x : Sc.In) (a : Int) (h : InRng x) : 0 ≤ Sc.hop x a ∧ Sc.hop x a ≤ 65535 := by
  obtain ⟨h1, h2, h3, h4, h5, h6, h7, h8⟩ := h
  unfold Sc.hop
  repeat' split
  all_goals omega
theorem runN_end (r : ByteArray) (g : Nat) (m : Sc.Mc) (s : Int) : Sc.runN r g [] m s = (0, s) := by cases g <;> rfl

set_option maxRecDepth 100000 in
set_option maxHeartbeats 4000000 in
theorem mRun_list (w : World) (sa : Option Addr) (sc : Nat) (L : List Sc.In) (r : ByteArray) (hr : r.size = 20) (hI : InsAt w sa L) (hle : L.length ≤ 1024) (hok : ∀ i (h : i < L.length), DoOk L[i]) :
    Calls Try.prog 59 #[.slice sa L.length sc, .string r] w fun e w' => e = .returned (.tuple #[.int .i64 (Sc.runL r L).1, .int .i64 (Sc.runL r L).2]) ∧ w.grownBy w' none := by
  have HI := hid hI
  have HK := hid hok
  have HR : Hid (Sc.runL r L = Sc.runN r (L.length + 1) L ⟨0, 0, 0, 0, 0⟩ 0) := rfl
  have Hr := hid hr
  generalize Sc.runL r L = R at *
  obtain ⟨v, n⟩ := R
  clear hI hok hr
  go_enter Try.func59, Try.ntmps59
  go_wp2_with fail
  go_loopw [7, 8] (fun st i wr => ∃ (k : Nat) (s : Nat) (m : Sc.Mc) (g : Nat), k ≤ 70000 ∧ s ≤ k ∧ i = .int .i64 k ∧ st = .int .i64 s ∧ McOk m ∧ StAt wr w.heap.size m ∧ w.grownBy wr none ∧ Hid (L.length + 1 ≤ k + g) ∧ Hid (Sc.runN r g (L.drop k) m s = (v, n))) (fun _ i _ => L.length - (intOf i).toNat)
  case atStart => exact ⟨0, 0, ⟨0, 0, 0, 0, 0⟩, L.length + 1, by omega, by omega, rfl, rfl, by unfold McOk; simp, Blk.new w _ _, gb_alloc (gb_refl _ _) _, by unfold Hid; omega, by unfold Hid; rw [HR.out]; rfl⟩
  case round =>
    obtain ⟨k, s, m, g, hk, hs, rfl, rfl, hm, hB, hg, hfu, hS⟩ := hrel
    have Hg := hid hg
    have HB := hid hB
    have Hm := hid hm
    have hz := hB.lt
    clear HR
    by_cases hlt : k < L.length
    · have hdr : Hid (L.drop k = L[k] :: L.drop (k + 1)) := by unfold Hid; rw [List.drop_eq_getElem_cons hlt]
      obtain ⟨b, off, rfl, hb, hcell⟩ := (HI.out.keep hg) k hlt
      have hx := HK.out k hlt
      have t0 := hcell 0 (by omega)
      have t1 := hcell 1 (by omega)
      have t2 := hcell 2 (by omega)
      have t3 := hcell 3 (by omega)
      obtain ⟨g', hg'⟩ : ∃ g', g = g' + 1 := ⟨g - 1, by have := hfu.out; omega⟩
      subst hg'
      obtain ⟨X, hX⟩ : ∃ X, X = L[k] := ⟨_, rfl⟩
      rw [← hX] at hx t0 t1 t2 t3 hdr
      have hst : Hid ((if X.op = 15 then (X.k, (s : Int) + 1) else if X.op = 16 then (m.a, (s : Int) + 1) else Sc.runN r g' ((L.drop (k + 1)).drop (Sc.hop X m.a).toNat) (Sc.stepM r X m) ((s : Int) + 1)) = (v, n)) := by
        unfold Hid at *; rw [← hS, hdr]; rfl
      have hD := hid (fun (W : World) (h : StAt W w.heap.size m) => mDo_any W w.heap.size m X r h Hm.out hx Hr.out)
      have hm2 := stepM_rng r X m Hr.out hx hm
      have hH := hid (fun w => mHop_any w X (Sc.stepM r X m).a hm2.1 hm2.2.1 hx.1.2.2.2.2.2.2.1 hx.1.2.2.2.2.2.2.2)
      rw [hop_step] at hH
      have hhr := hop_rng X m.a hx.1
      have HX := hid hX
      have Hm2 := hid hm2
      clear hX hcell hdr hS hg hm hm2 hB
      have a0 := Blk.cell HB.out 0
      simp [mcCells] at a0
      generalize Sc.stepM r X m = m2 at *
      generalize Sc.hop X m.a = hp at *
      obtain ⟨op, t, f, kk⟩ := X
      simp [inCells] at t0 t1 t2 t3
      simp only at hst
      clear hx
      by_cases h15 : op = 15
      · subst h15
        have hv : Hid ((kk, (s : Int) + 1) = (v, n)) := by unfold Hid; rw [← hst.out, if_pos rfl]
        clear hD hH hst
        go_wp2_with fail
        go_ret2
        have := hv.out
        simp only [Prod.mk.injEq] at this
        obtain ⟨rfl, rfl⟩ := this
        exact ⟨rfl, gb_alloc Hg.out _⟩
      have e15 : (op == 15) = false := by simp [h15]
      by_cases h16 : op = 16
      · subst h16
        have hv : Hid ((m.a, (s : Int) + 1) = (v, n)) := by unfold Hid; rw [← hst.out, if_neg (by decide), if_pos rfl]
        clear hD hH hst h15 e15
        go_wp2_with fail
        go_ret2
        have := hv.out
        simp only [Prod.mk.injEq] at this
        obtain ⟨rfl, rfl⟩ := this
        exact ⟨rfl, gb_alloc Hg.out _⟩
      have e16 : (op == 16) = false := by simp [h16]
      have hst2 : Hid (Sc.runN r g' ((L.drop (k + 1)).drop hp.toNat) m2 ((s : Int) + 1) = (v, n)) := by
        unfold Hid; rw [← hst.out, if_neg h15, if_neg h16]
      clear hst h15 h16
      simp only [inCells] at hD hH
      go_wp2_with fail
      refine (hD.out _ (Blk.alloc HB.out _)).mono ?_
      rintro e w2 ⟨rfl, hB2, hg2⟩
      have X2 := (Blk.new wr 46 #[.int .i64 op, .int .i64 t, .int .i64 f, .int .i64 kk]).keep hg2 (by simp; omega)
      have x0 := X2.cell 0
      have x1 := X2.cell 1
      have x2 := X2.cell 2
      have x3 := X2.cell 3
      have y0 := Blk.cell hB2 0
      simp [mcCells] at x0 x1 x2 x3 y0
      have HB2 := hid hB2
      have Hg2 := hid (gb_grow Hg.out (gb_unalloc hg2) (fun j hj => by cases hj; exact Nat.le_refl _))
      clear hB2 hg2 hD t0 t1 t2 t3 a0
      go_wp2_with fail
      refine (hH.out _).mono ?_
      rintro e w3 ⟨rfl, hg3⟩
      have Hg3 := hid hg3
      clear hH hg3
      obtain ⟨h, rfl⟩ := Int.eq_ofNat_of_zero_le hhr.1
      have hhb : h ≤ 65535 := by omega
      clear hhr
      go_wp2_with fail
      go_roundw
      case rel =>
        refine ⟨k + 1 + h, s + 1, m2, g', by omega, by omega, by go_num, by go_num, Hm2.out, Blk.keep HB2.out Hg3.out (by simp), gb_trans Hg2.out Hg3.out, by have := hfu.out; unfold Hid; omega, ?_⟩
        have := hst2.out
        unfold Hid
        rw [Int.toNat_natCast, List.drop_drop] at this
        simpa using this
      case measure => simp [intOf]; omega
    · have hS2 : Hid ((0, (s : Int)) = (v, n)) := by
        have := hS.out
        rw [List.drop_eq_nil_of_le (by omega), runN_end] at this
        exact this
      clear hS hg hB hm
      go_wp2_with fail
      go_ret2
      have := hS2.out
      simp only [Prod.mk.injEq] at this
      obtain ⟨rfl, rfl⟩ := this
      exact ⟨rfl, Hg.out⟩

theorem soundN_ok (L : List Sc.In) : ∀ (l : List Sc.In) (i : Nat), (Sc.soundN L i l).1 = 0 → ∀ j (h : j < l.length), Sc.wrongE l[j] ((l.length - (j + 1) : Nat) : Int) = 0 := by
  intro l
  induction l with
  | nil => intro i h j hj; simp at hj
  | cons x r ih =>
    intro i h j hj
    simp only [Sc.soundN] at h
    split at h
    · next hw =>
      cases j with
      | zero => simpa using hw
      | succ j =>
        have := ih (i + 1) h j (by simpa using hj)
        simpa using this
    · next hw => exact absurd h hw
theorem sound_steps (c : ByteArray) (h : (Sc.sound c).1 = 0) : Sc.decE c = 0 ∧ ∀ j (hj : j < (Sc.decL c).length), Sc.wrongE (Sc.decL c)[j] (((Sc.decL c).length - (j + 1) : Nat) : Int) = 0 := by
  have hE : Sc.decE c = 0 := by
    unfold Sc.sound at h
    split at h
    · assumption
    · next q => exact absurd h q
  refine ⟨hE, ?_⟩
  unfold Sc.sound at h
  rw [if_pos hE] at h
  unfold Sc.soundL at h
  split at h
  · cases h
  · split at h
    · next q => exact soundN_ok _ _ _ q
    · next q => exact absurd h q
theorem sound_doOk (c : ByteArray) (h : (Sc.sound c).1 = 0) : ∀ j (hj : j < (Sc.decL c).length), DoOk (Sc.decL c)[j] :=
  fun j hj => doOk_of _ _ (decL_rng c j hj) ((sound_steps c h).2 j hj)

set_option maxRecDepth 100000 in
set_option maxHeartbeats 2000000 in
theorem mRun_any (w : World) (c r : ByteArray) (hc : c.size ≤ maxLen) (hm : r.size ≤ maxLen) :
    Calls Try.prog 51 #[.string c, .string r] w fun e w' => e = .returned (.tuple #[.int .i64 (Sc.runC c r).1, .int .i64 (Sc.runC c r).2.1, .int .i64 (Sc.runC c r).2.2]) ∧ w.grownBy w' none := by
  have hR := mRead_any w c hc
  by_cases hS : (Sc.sound c).1 = 0
  · have hrl : readL c = Sc.decL c := by unfold readL; rw [if_pos hS]
    rw [hrl, hS] at hR
    have hok := hid (sound_doOk c hS)
    have hle := decL_le c
    by_cases hr : r.size = 20
    · have hv : Hid (Sc.runC c r = ((Sc.runL r (Sc.decL c)).1, (Sc.runL r (Sc.decL c)).2, 0)) := by unfold Hid Sc.runC; rw [if_pos hS, if_pos hr]
      have hI := fun w => isRecord_any w r hm
      simp only [hr, decide_true] at hI
      have Hr := hid hr
      generalize Sc.decL c = L at *
      clear hS hrl hr
      go_enter Try.func51, Try.ntmps51
      go_wp2_with fail
      refine hR.mono ?_
      rintro e w1 ⟨sa, rfl, hg1, ho1⟩
      clear hR
      go_wp2_with fail
      refine (hI _).mono ?_
      rintro e w2 ⟨rfl, rfl⟩
      clear hI
      have hX := mRun_list w2 sa L.length L r Hr.out (InsAt.of_own rfl ho1) hle hok.out
      clear ho1
      go_wp2_with fail
      refine hX.mono ?_
      rintro e w3 ⟨rfl, hg3⟩
      clear hX
      go_wp2_with fail
      refine bodyPost_ret (v := .tuple #[.int .i64 (Sc.runL r L).1, .int .i64 (Sc.runL r L).2, .int .i64 0]) (by simp [results, Try.results51, go_sem]) rfl ?_
      rw [hv.out]
      exact ⟨rfl, gb_trans hg1 hg3⟩
    · have hv : Hid (Sc.runC c r = (0, 0, 9)) := by unfold Hid Sc.runC; rw [if_pos hS, if_neg hr]
      have hI := fun w => isRecord_any w r hm
      simp only [hr, decide_false] at hI
      generalize Sc.decL c = L at *
      clear hS hrl hr
      go_enter Try.func51, Try.ntmps51
      go_wp2_with fail
      refine hR.mono ?_
      rintro e w1 ⟨sa, rfl, hg1, ho1⟩
      clear hR ho1
      go_wp2_with fail
      refine (hI _).mono ?_
      rintro e w2 ⟨rfl, rfl⟩
      clear hI
      go_wp2_with fail
      refine bodyPost_ret (v := .tuple #[.int .i64 0, .int .i64 0, .int .i64 9]) (by simp [results, Try.results51, go_sem]) rfl ?_
      rw [hv.out]
      exact ⟨rfl, hg1⟩
  · have hv : Hid (Sc.runC c r = (0, 0, (Sc.sound c).1)) := by unfold Hid Sc.runC; rw [if_neg hS]
    have e1 : ((Sc.sound c).1 != 0) = true := by simp [hS]
    generalize (Sc.sound c).1 = E at *
    clear hS
    go_enter Try.func51, Try.ntmps51
    go_wp2_with fail
    refine hR.mono ?_
    rintro e w1 ⟨sa, rfl, hg1, ho1⟩
    clear hR ho1
    go_wp2_with fail
    refine bodyPost_ret (v := .tuple #[.int .i64 0, .int .i64 0, .int .i64 E]) (by simp [results, Try.results51, go_sem]) rfl ?_
    rw [hv.out]
    exact ⟨rfl, hg1⟩

set_option maxHeartbeats 1000000 in
theorem run_any (w : World) (c r : ByteArray) (hc : c.size ≤ maxLen) (hm : r.size ≤ maxLen) :
    Calls Try.prog 40 #[.string c, .string r] w fun e w' => e = .returned (.tuple #[.int .i64 (Sc.runC c r).1, .int .i64 (Sc.runC c r).2.1, .int .i64 (Sc.runC c r).2.2]) ∧ w.grownBy w' none := by
  have hR := mRun_any w c r hc hm
  generalize Sc.runC c r = X at *
  obtain ⟨a, b, d⟩ := X
  go_enter Try.func40, Try.ntmps40
  go_wp2_with fail
  refine hR.mono ?_
  rintro e w1 ⟨rfl, hg1⟩
  clear hR
  go_wp2_with fail
  refine bodyPost_ret (v := .tuple #[.int .i64 a, .int .i64 b, .int .i64 d]) (by simp [results, Try.results40, go_sem]) rfl ?_
  exact ⟨rfl, hg1⟩
end Go.Proofs.Ytibgffbcbhphdaa
