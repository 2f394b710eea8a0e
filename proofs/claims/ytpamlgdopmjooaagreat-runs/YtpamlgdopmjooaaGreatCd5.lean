/- A run: the document's walk; the statement Runs. -/
import Derived.Test.YtpamlgdopmjooaaGreatCd4
import Derived.Test.YtpamlgdopmjooaaGreatCd3
namespace Go.Proofs.YtpamlgdopmjooaaGreat
open Go.RowKit
set_option linter.unusedVariables false
set_option linter.unusedSimpArgs false

/-- where a sound list goes on there is an instruction -/
def GoesOn (L : List Sc.In) : Prop := ∀ j (h : j < L.length) (a : Int), L[j].op ≠ 15 → L[j].op ≠ 16 → j + 1 + (Sc.hop L[j] a).toNat < L.length
theorem goesOn_of (c : ByteArray) (h : (Sc.sound c).1 = 0) : GoesOn (Sc.decL c) := by
  obtain ⟨hE, hw⟩ := sound_steps c h
  have hlast : (Sc.decL c).length ≠ 0 → (Sc.lastOp (Sc.decL c) = 15 ∨ Sc.lastOp (Sc.decL c) = 16) := by
    intro hne
    unfold Sc.sound at h
    rw [if_pos hE] at h
    unfold Sc.soundL at h
    rw [if_neg hne] at h
    split at h
    · split at h
      · assumption
      · cases h
    · next q => exact absurd h q
  intro j hj a h15 h16
  have hx := decL_rng c j hj
  have hwj := hw j hj
  have hl : j + 1 < (Sc.decL c).length := by
    have h1 := hlast (by omega)
    rw [lastOp_get _ (by omega)] at h1
    by_cases q : j = (Sc.decL c).length - 1
    · subst q
      rcases h1 with h1 | h1
      · exact absurd h1 h15
      · exact absurd h1 h16
    · omega
  generalize (Sc.decL c)[j] = X at *
  obtain ⟨op, t, f, k⟩ := X
  obtain ⟨x1, x2, x3, x4, x5, x6, x7, x8⟩ := hx
  simp only at h15 h16 x1 x2 x3 x4 x5 x6 x7 x8
  have hj2 : ¬ ((op = 10 ∧ (((Sc.decL c).length - (j + 1) : Nat) : Int) ≤ k) ∨ (Sc.isTest op = true ∧ ((((Sc.decL c).length - (j + 1) : Nat) : Int) ≤ t ∨ (((Sc.decL c).length - (j + 1) : Nat) : Int) ≤ f))) := by
    intro q
    unfold Sc.wrongE at hwj
    simp only at hwj
    split at hwj
    · cases hwj
    · split at hwj
      · cases hwj
      · split at hwj
        · cases hwj
        · first | cases hwj | (rw [if_pos q] at hwj; cases hwj)
  unfold Sc.hop
  simp only
  by_cases h10 : op = 10
  · rw [if_pos h10]
    have : ¬ ((((Sc.decL c).length - (j + 1) : Nat) : Int) ≤ k) := fun q => hj2 (Or.inl ⟨h10, q⟩)
    omega
  · rw [if_neg h10]
    by_cases ht : Sc.isTest op = true
    · rw [if_pos ht]
      have h1 : ¬ ((((Sc.decL c).length - (j + 1) : Nat) : Int) ≤ t) := fun q => hj2 (Or.inr ⟨ht, Or.inl q⟩)
      have h2 : ¬ ((((Sc.decL c).length - (j + 1) : Nat) : Int) ≤ f) := fun q => hj2 (Or.inr ⟨ht, Or.inr q⟩)
      split <;> omega
    · rw [if_neg ht]; omega
def sliceLen : Value → Nat
  | .slice _ n _ => n
  | _ => 0
def clCells (m : Sc.Mc) : Array Value := #[.int .i64 m.c0, .int .i64 m.c1, .int .i64 m.c2, .int .i64 m.c3]
theorem bN_word (r : ByteArray) (k : Int) : bN r k.toNat (2 : Int).toNat (2 : Int).toNat = Sv.wordAt r k := by
  show bN r k.toNat 2 2 = _
  unfold Sv.wordAt
  simp [bN]; omega

set_option maxRecDepth 100000 in
set_option maxHeartbeats 8000000 in
theorem rRun_list (w : World) (sa : Option Addr) (sc : Nat) (L : List Sc.In) (r : ByteArray) (hr : r.size = 20) (hI : InsAt w sa L) (hsc : L.length ≤ sc) (hsm : sc ≤ maxLen) (hle : L.length ≤ 1024) (hok : ∀ i (h : i < L.length), DoOk L[i]) (hgo : GoesOn L) (hpos : 0 < L.length) :
    Calls Tryz.prog 49 #[.slice sa L.length sc, .string r] w fun e w' => e = .returned (.tuple #[.int .i64 (Sc.runL r L).1, .int .i64 (Sc.runL r L).2]) ∧ w.grownBy w' none := by
  unfold maxLen at hsm
  obtain ⟨b, off, rfl, hb, -⟩ := hI 0 hpos
  have HI := hid hI
  have HK := hid hok
  have HGo := hid hgo
  have HR : Hid (Sc.runL r L = Sc.runN r (L.length + 1) L ⟨0, 0, 0, 0, 0⟩ 0) := rfl
  have Hr := hid hr
  generalize Sc.runL r L = R at *
  obtain ⟨v, n⟩ := R
  clear hI hok hr hgo
  go_enter Tryz.func49, Tryz.ntmps49
  go_wp2_with fail
  go_loopw [0, 6, 8] (fun l y st wr => ∃ (k : Nat) (o : Nat) (cc : Nat) (s : Nat) (m : Sc.Mc) (g : Nat), k < L.length ∧ L.length ≤ k + cc ∧ cc ≤ sc ∧ s ≤ k ∧ l = .slice (some ⟨b, o, none⟩) (L.length - k) cc ∧ y = .int .i64 m.a ∧ st = .int .i64 s ∧ McOk m ∧ Hid (o = off + k * 4) ∧ Blk wr w.heap.size 88 (clCells m) ∧ w.grownBy wr none ∧ Hid (L.length + 1 ≤ k + g) ∧ Hid (Sc.runN r g (L.drop k) m s = (v, n))) (fun l _ _ _ => sliceLen l)
  case atStart => exact ⟨0, off, sc, 0, ⟨0, 0, 0, 0, 0⟩, L.length + 1, by omega, by omega, by omega, by omega, by simp, rfl, rfl, by unfold McOk; simp, by unfold Hid; omega, Blk.new w _ _, gb_alloc (gb_refl _ _) _, by unfold Hid; omega, by unfold Hid; rw [HR.out]; rfl⟩
  case round =>
    obtain ⟨k, o, cc, s, m, g, hk, hcc, hcs, hs, rfl, rfl, rfl, hm, ho, hB, hg, hfu, hS⟩ := hrel
    have Hg := hid hg
    have HB := hid hB
    have Hm := hid hm
    have hz := hB.lt
    clear HR
    have hdr : Hid (L.drop k = L[k] :: L.drop (k + 1)) := by unfold Hid; rw [List.drop_eq_getElem_cons hk]
    obtain ⟨b', off', hbo, hbl, hcell⟩ := (HI.out.keep hg) k hk
    have hbo' : b = b' ∧ off = off' := by simpa using hbo
    obtain ⟨rfl, rfl⟩ := hbo'
    have hx := HK.out k hk
    have t0 := hcell 0 (by omega)
    have t1 := hcell 1 (by omega)
    have t2 := hcell 2 (by omega)
    have t3 := hcell 3 (by omega)
    rw [← ho.out] at t0 t1 t2 t3
    obtain ⟨g', hg'⟩ : ∃ g', g = g' + 1 := ⟨g - 1, by have := hfu.out; omega⟩
    subst hg'
    have hgx := HGo.out k hk m.a
    obtain ⟨X, hX⟩ : ∃ X, X = L[k] := ⟨_, rfl⟩
    rw [← hX] at hx t0 t1 t2 t3 hdr hgx
    have hst : Hid ((if X.op = 15 then (X.k, (s : Int) + 1) else if X.op = 16 then (m.a, (s : Int) + 1) else Sc.runN r g' ((L.drop (k + 1)).drop (Sc.hop X m.a).toNat) (Sc.stepM r X m) ((s : Int) + 1)) = (v, n)) := by
      unfold Hid at *; rw [← hS, hdr]; rfl
    have hm2 := hid (stepM_rng r X m Hr.out hx hm)
    have hH := hid (fun w => rHop_any w X m.a hm.1 hm.2.1 hx.1.2.2.2.2.2.2.1 hx.1.2.2.2.2.2.2.2)
    have hBc := hid (fun w => rBecomes_any w X m.a hm.1 hm.2.1 hx.1.2.2.2.2.2.2.1 hx.1.2.2.2.2.2.2.2 hx.2.2.2.1 hx.2.2.2.2)
    have hhr := hop_rng X m.a hx.1
    have HX := hid hX
    have hlen1 : (0 : Int) < ((L.length - k : Nat) : Int) := by omega
    clear hX hcell hdr hS hg hbo
    obtain ⟨op, t, f, kk⟩ := X
    obtain ⟨a, c0, c1, c2, c3⟩ := m
    simp [inCells] at t0 t1 t2 t3
    simp only at hst hgx
    simp only [clCells] at hB
    have a0 := hB.cell 0
    have a1 := hB.cell 1
    have a2 := hB.cell 2
    have a3 := hB.cell 3
    have af := hB.fz
    simp at a0 a1 a2 a3
    by_cases h15 : op = 15
    · subst h15
      have hv : Hid ((kk, (s : Int) + 1) = (v, n)) := by unfold Hid; rw [← hst.out, if_pos rfl]
      clear hH hBc hst hgx hm hx hB
      go_wp2_with fail
      go_ret2
      have := hv.out
      simp only [Prod.mk.injEq] at this
      obtain ⟨rfl, rfl⟩ := this
      exact ⟨rfl, gb_alloc Hg.out _⟩
    have e15 : (op == 15) = false := by simp [h15]
    by_cases h16 : op = 16
    · subst h16
      have hv : Hid ((a, (s : Int) + 1) = (v, n)) := by unfold Hid; rw [← hst.out, if_neg (by decide), if_pos rfl]
      clear hH hBc hst h15 e15 hgx hm hx hB
      go_wp2_with fail
      go_ret2
      have := hv.out
      simp only [Prod.mk.injEq] at this
      obtain ⟨rfl, rfl⟩ := this
      exact ⟨rfl, gb_alloc Hg.out _⟩
    have e16 : (op == 16) = false := by simp [h16]
    have hgx2 := hgx h15 h16
    have hst2 : Hid (Sc.runN r g' ((L.drop (k + 1)).drop (Sc.hop ⟨op, t, f, kk⟩ a).toNat) (Sc.stepM r ⟨op, t, f, kk⟩ ⟨a, c0, c1, c2, c3⟩) ((s : Int) + 1) = (v, n)) := by
      unfold Hid; rw [← hst.out, if_neg h15, if_neg h16]
    clear hst h15 h16 hgx hB
    generalize Sc.hop ⟨op, t, f, kk⟩ a = hp at *
    obtain ⟨h, rfl⟩ := Int.eq_ofNat_of_zero_le hhr.1
    rw [Int.toNat_natCast] at hgx2
    have hst3 : Hid (Sc.runN r g' (L.drop (k + 1 + h)) (Sc.stepM r ⟨op, t, f, kk⟩ ⟨a, c0, c1, c2, c3⟩) (((s + 1 : Nat) : Int)) = (v, n)) := by
      have := hst2.out
      rw [Int.toNat_natCast, List.drop_drop] at this
      unfold Hid
      simpa using this
    have hsl : Hid (1 + h < L.length - k) := by unfold Hid; omega
    have s1 : (1 : Int) + (h : Int) ≤ ((L.length - k : Nat) : Int) := by omega
    have s2 : (1 : Int) + (h : Int) < (cc : Int) := by omega
    have s3 : ((1 : Int) + (h : Int)).toNat = 1 + h := by omega
    have s4 : (0 : Int) ≤ 1 + (h : Int) := by omega
    have s5 : ((L.length - k : Nat) : Int) ≤ (cc : Int) := by omega
    have s6 : ¬ (cc = 1 + h) := by omega
    have HX1 := hid (fun w1 (hg : (wr.alloc (.cells #[.int .i64 op, .int .i64 t, .int .i64 f, .int .i64 kk] 35)).grownBy w1 none) => (Blk.new wr 35 #[.int .i64 op, .int .i64 t, .int .i64 f, .int .i64 kk]).keep hg (by simp))
    simp only [inCells] at hH hBc
    obtain ⟨m0, m1, -, -, -, -, -, -, -, -⟩ := hm
    obtain ⟨⟨x1, x2, -, -, -, -, x7, x8⟩, y1, y2, -, -⟩ := hx
    simp only at m0 m1 x1 x2 x7 x8 y1 y2
    clear hst2 hhr
    by_cases q2 : op = 2
    · subst q2
      clear hBc y1 y2
      go_wp2_with fail
      refine (hH.out _).mono ?_
      rintro e w2 ⟨rfl, hg2⟩
      have B2 := HX1.out w2 hg2
      have z0 := B2.cell 0
      have z1 := B2.cell 1
      have z2 := B2.cell 2
      have z3 := B2.cell 3
      simp at z0 z1 z2 z3
      have BC := (Blk.alloc HB.out (.cells #[.int .i64 2, .int .i64 t, .int .i64 f, .int .i64 kk] 35)).keep hg2 (by simp)
      have c0' := BC.cell 0
      have c1' := BC.cell 1
      have c2' := BC.cell 2
      have c3' := BC.cell 3
      have cf' := BC.fz
      simp [clCells] at c0' c1' c2' c3'
      have HBC := hid BC
      have Hg2 := hid (gb_trans Hg.out (gb_unalloc hg2))
      clear hg2 hH t0 t1 t2 t3 B2 BC a0 a1 a2 a3 af
      go_wp2_with fail
      go_roundw
      case rel =>
        refine ⟨k + 1 + h, o + (1 + h) * 4, cc - (1 + h), s + 1, Sc.stepM r ⟨2, t, f, kk⟩ ⟨a, c0, c1, c2, c3⟩, g', by omega, by omega, by omega, by omega, ?_, rfl, by go_num, hm2.out, ?_, HBC.out, Hg2.out, ?_, hst3⟩
        · have : L.length - k - (1 + h) = L.length - (k + 1 + h) := by omega
          rw [this]
        · have := ho.out; unfold Hid; omega
        · have := hfu.out; unfold Hid; omega
      case measure => simp [sliceLen]; omega
    by_cases q1 : op = 1
    · subst q1
      have hW := hid (fun w => bytesG_any w r kk 2 x7 (by omega) (by omega) (by have := (y1 rfl).2; have := Hr.out; omega) (by have := Hr.out; omega))
      rw [bN_word] at hW
      clear hBc y1 y2 q2
      go_wp2_with fail
      refine (hH.out _).mono ?_
      rintro e w2 ⟨rfl, hg2⟩
      have B2 := HX1.out w2 hg2
      have z0 := B2.cell 0
      have z1 := B2.cell 1
      have z2 := B2.cell 2
      have z3 := B2.cell 3
      simp at z0 z1 z2 z3
      have BC := (Blk.alloc HB.out (.cells #[.int .i64 1, .int .i64 t, .int .i64 f, .int .i64 kk] 35)).keep hg2 (by simp)
      have c0' := BC.cell 0
      have c1' := BC.cell 1
      have c2' := BC.cell 2
      have c3' := BC.cell 3
      have cf' := BC.fz
      simp [clCells] at c0' c1' c2' c3'
      have HBC := hid BC
      have Hg2 := hid (gb_trans Hg.out (gb_unalloc hg2))
      clear hg2 hH t0 t1 t2 t3 B2 BC a0 a1 a2 a3 af
      go_wp2_with fail
      refine (hW.out _).mono ?_
      rintro e w3 ⟨rfl, hw⟩
      subst hw
      go_wp2_with fail
      go_roundw
      case rel =>
        refine ⟨k + 1 + h, o + (1 + h) * 4, cc - (1 + h), s + 1, Sc.stepM r ⟨1, t, f, kk⟩ ⟨a, c0, c1, c2, c3⟩, g', by omega, by omega, by omega, by omega, ?_, rfl, by go_num, hm2.out, ?_, HBC.out, Hg2.out, ?_, hst3⟩
        · have : L.length - k - (1 + h) = L.length - (k + 1 + h) := by omega
          rw [this]
        · have := ho.out; unfold Hid; omega
        · have := hfu.out; unfold Hid; omega
      case measure => simp [sliceLen]; omega
    by_cases q3 : op = 3
    · subst q3
      have hk3 := y2 (Or.inl rfl)
      have hkc : kk = 0 ∨ kk = 1 ∨ kk = 2 ∨ kk = 3 := by omega
      clear hBc y1 y2 q1 q2 hk3 x7 x8
      rcases hkc with rfl | rfl | rfl | rfl
      · go_wp2_with fail
        refine (hH.out _).mono ?_
        rintro e w2 ⟨rfl, hg2⟩
        have B2 := HX1.out w2 hg2
        have z0 := B2.cell 0
        have z1 := B2.cell 1
        have z2 := B2.cell 2
        have z3 := B2.cell 3
        simp at z0 z1 z2 z3
        have BC := (Blk.alloc HB.out (.cells #[.int .i64 3, .int .i64 t, .int .i64 f, .int .i64 0] 35)).keep hg2 (by simp)
        have c0' := BC.cell 0
        have c1' := BC.cell 1
        have c2' := BC.cell 2
        have c3' := BC.cell 3
        have cf' := BC.fz
        simp [clCells] at c0' c1' c2' c3'
        have HBC := hid BC
        have Hg2 := hid (gb_trans Hg.out (gb_unalloc hg2))
        clear hg2 hH t0 t1 t2 t3 B2 BC a0 a1 a2 a3 af
        go_wp2_with fail
        go_roundw
        case rel =>
          refine ⟨k + 1 + h, o + (1 + h) * 4, cc - (1 + h), s + 1, Sc.stepM r ⟨3, t, f, 0⟩ ⟨a, c0, c1, c2, c3⟩, g', by omega, by omega, by omega, by omega, ?_, rfl, by go_num, hm2.out, ?_, HBC.out, Hg2.out, ?_, hst3⟩
          · have : L.length - k - (1 + h) = L.length - (k + 1 + h) := by omega
            rw [this]
          · have := ho.out; unfold Hid; omega
          · have := hfu.out; unfold Hid; omega
        case measure => simp [sliceLen]; omega
      · go_wp2_with fail
        refine (hH.out _).mono ?_
        rintro e w2 ⟨rfl, hg2⟩
        have B2 := HX1.out w2 hg2
        have z0 := B2.cell 0
        have z1 := B2.cell 1
        have z2 := B2.cell 2
        have z3 := B2.cell 3
        simp at z0 z1 z2 z3
        have BC := (Blk.alloc HB.out (.cells #[.int .i64 3, .int .i64 t, .int .i64 f, .int .i64 1] 35)).keep hg2 (by simp)
        have c0' := BC.cell 0
        have c1' := BC.cell 1
        have c2' := BC.cell 2
        have c3' := BC.cell 3
        have cf' := BC.fz
        simp [clCells] at c0' c1' c2' c3'
        have HBC := hid BC
        have Hg2 := hid (gb_trans Hg.out (gb_unalloc hg2))
        clear hg2 hH t0 t1 t2 t3 B2 BC a0 a1 a2 a3 af
        go_wp2_with fail
        go_roundw
        case rel =>
          refine ⟨k + 1 + h, o + (1 + h) * 4, cc - (1 + h), s + 1, Sc.stepM r ⟨3, t, f, 1⟩ ⟨a, c0, c1, c2, c3⟩, g', by omega, by omega, by omega, by omega, ?_, rfl, by go_num, hm2.out, ?_, HBC.out, Hg2.out, ?_, hst3⟩
          · have : L.length - k - (1 + h) = L.length - (k + 1 + h) := by omega
            rw [this]
          · have := ho.out; unfold Hid; omega
          · have := hfu.out; unfold Hid; omega
        case measure => simp [sliceLen]; omega
      · go_wp2_with fail
        refine (hH.out _).mono ?_
        rintro e w2 ⟨rfl, hg2⟩
        have B2 := HX1.out w2 hg2
        have z0 := B2.cell 0
        have z1 := B2.cell 1
        have z2 := B2.cell 2
        have z3 := B2.cell 3
        simp at z0 z1 z2 z3
        have BC := (Blk.alloc HB.out (.cells #[.int .i64 3, .int .i64 t, .int .i64 f, .int .i64 2] 35)).keep hg2 (by simp)
        have c0' := BC.cell 0
        have c1' := BC.cell 1
        have c2' := BC.cell 2
        have c3' := BC.cell 3
        have cf' := BC.fz
        simp [clCells] at c0' c1' c2' c3'
        have HBC := hid BC
        have Hg2 := hid (gb_trans Hg.out (gb_unalloc hg2))
        clear hg2 hH t0 t1 t2 t3 B2 BC a0 a1 a2 a3 af
        go_wp2_with fail
        go_roundw
        case rel =>
          refine ⟨k + 1 + h, o + (1 + h) * 4, cc - (1 + h), s + 1, Sc.stepM r ⟨3, t, f, 2⟩ ⟨a, c0, c1, c2, c3⟩, g', by omega, by omega, by omega, by omega, ?_, rfl, by go_num, hm2.out, ?_, HBC.out, Hg2.out, ?_, hst3⟩
          · have : L.length - k - (1 + h) = L.length - (k + 1 + h) := by omega
            rw [this]
          · have := ho.out; unfold Hid; omega
          · have := hfu.out; unfold Hid; omega
        case measure => simp [sliceLen]; omega
      · go_wp2_with fail
        refine (hH.out _).mono ?_
        rintro e w2 ⟨rfl, hg2⟩
        have B2 := HX1.out w2 hg2
        have z0 := B2.cell 0
        have z1 := B2.cell 1
        have z2 := B2.cell 2
        have z3 := B2.cell 3
        simp at z0 z1 z2 z3
        have BC := (Blk.alloc HB.out (.cells #[.int .i64 3, .int .i64 t, .int .i64 f, .int .i64 3] 35)).keep hg2 (by simp)
        have c0' := BC.cell 0
        have c1' := BC.cell 1
        have c2' := BC.cell 2
        have c3' := BC.cell 3
        have cf' := BC.fz
        simp [clCells] at c0' c1' c2' c3'
        have HBC := hid BC
        have Hg2 := hid (gb_trans Hg.out (gb_unalloc hg2))
        clear hg2 hH t0 t1 t2 t3 B2 BC a0 a1 a2 a3 af
        go_wp2_with fail
        go_roundw
        case rel =>
          refine ⟨k + 1 + h, o + (1 + h) * 4, cc - (1 + h), s + 1, Sc.stepM r ⟨3, t, f, 3⟩ ⟨a, c0, c1, c2, c3⟩, g', by omega, by omega, by omega, by omega, ?_, rfl, by go_num, hm2.out, ?_, HBC.out, Hg2.out, ?_, hst3⟩
          · have : L.length - k - (1 + h) = L.length - (k + 1 + h) := by omega
            rw [this]
          · have := ho.out; unfold Hid; omega
          · have := hfu.out; unfold Hid; omega
        case measure => simp [sliceLen]; omega
    by_cases q4 : op = 4
    · subst q4
      have hk3 := y2 (Or.inr rfl)
      have hkc : kk = 0 ∨ kk = 1 ∨ kk = 2 ∨ kk = 3 := by omega
      clear hBc y1 y2 q1 q2 q3 hk3 x7 x8
      rcases hkc with rfl | rfl | rfl | rfl
      · go_wp2_with fail
        refine (hH.out _).mono ?_
        rintro e w2 ⟨rfl, hg2⟩
        have B2 := HX1.out w2 hg2
        have z0 := B2.cell 0
        have z1 := B2.cell 1
        have z2 := B2.cell 2
        have z3 := B2.cell 3
        simp at z0 z1 z2 z3
        have BC := (Blk.alloc HB.out (.cells #[.int .i64 4, .int .i64 t, .int .i64 f, .int .i64 0] 35)).keep hg2 (by simp)
        have c0' := BC.cell 0
        have c1' := BC.cell 1
        have c2' := BC.cell 2
        have c3' := BC.cell 3
        have cf' := BC.fz
        simp [clCells] at c0' c1' c2' c3'
        have HBC := hid BC
        have Hg2 := hid (gb_trans Hg.out (gb_unalloc hg2))
        clear hg2 hH t0 t1 t2 t3 B2 BC a0 a1 a2 a3 af
        go_wp2_with fail
        go_roundw
        case rel =>
          refine ⟨k + 1 + h, o + (1 + h) * 4, cc - (1 + h), s + 1, Sc.stepM r ⟨4, t, f, 0⟩ ⟨a, c0, c1, c2, c3⟩, g', by omega, by omega, by omega, by omega, ?_, rfl, by go_num, hm2.out, ?_, (Blk.set HBC.out 0 _), (gb_own Hg2.out (Nat.le_refl _) _ _), ?_, hst3⟩
          · have : L.length - k - (1 + h) = L.length - (k + 1 + h) := by omega
            rw [this]
          · have := ho.out; unfold Hid; omega
          · have := hfu.out; unfold Hid; omega
        case measure => simp [sliceLen]; omega
      · go_wp2_with fail
        refine (hH.out _).mono ?_
        rintro e w2 ⟨rfl, hg2⟩
        have B2 := HX1.out w2 hg2
        have z0 := B2.cell 0
        have z1 := B2.cell 1
        have z2 := B2.cell 2
        have z3 := B2.cell 3
        simp at z0 z1 z2 z3
        have BC := (Blk.alloc HB.out (.cells #[.int .i64 4, .int .i64 t, .int .i64 f, .int .i64 1] 35)).keep hg2 (by simp)
        have c0' := BC.cell 0
        have c1' := BC.cell 1
        have c2' := BC.cell 2
        have c3' := BC.cell 3
        have cf' := BC.fz
        simp [clCells] at c0' c1' c2' c3'
        have HBC := hid BC
        have Hg2 := hid (gb_trans Hg.out (gb_unalloc hg2))
        clear hg2 hH t0 t1 t2 t3 B2 BC a0 a1 a2 a3 af
        go_wp2_with fail
        go_roundw
        case rel =>
          refine ⟨k + 1 + h, o + (1 + h) * 4, cc - (1 + h), s + 1, Sc.stepM r ⟨4, t, f, 1⟩ ⟨a, c0, c1, c2, c3⟩, g', by omega, by omega, by omega, by omega, ?_, rfl, by go_num, hm2.out, ?_, (Blk.set HBC.out 1 _), (gb_own Hg2.out (Nat.le_refl _) _ _), ?_, hst3⟩
          · have : L.length - k - (1 + h) = L.length - (k + 1 + h) := by omega
            rw [this]
          · have := ho.out; unfold Hid; omega
          · have := hfu.out; unfold Hid; omega
        case measure => simp [sliceLen]; omega
      · go_wp2_with fail
        refine (hH.out _).mono ?_
        rintro e w2 ⟨rfl, hg2⟩
        have B2 := HX1.out w2 hg2
        have z0 := B2.cell 0
        have z1 := B2.cell 1
        have z2 := B2.cell 2
        have z3 := B2.cell 3
        simp at z0 z1 z2 z3
        have BC := (Blk.alloc HB.out (.cells #[.int .i64 4, .int .i64 t, .int .i64 f, .int .i64 2] 35)).keep hg2 (by simp)
        have c0' := BC.cell 0
        have c1' := BC.cell 1
        have c2' := BC.cell 2
        have c3' := BC.cell 3
        have cf' := BC.fz
        simp [clCells] at c0' c1' c2' c3'
        have HBC := hid BC
        have Hg2 := hid (gb_trans Hg.out (gb_unalloc hg2))
        clear hg2 hH t0 t1 t2 t3 B2 BC a0 a1 a2 a3 af
        go_wp2_with fail
        go_roundw
        case rel =>
          refine ⟨k + 1 + h, o + (1 + h) * 4, cc - (1 + h), s + 1, Sc.stepM r ⟨4, t, f, 2⟩ ⟨a, c0, c1, c2, c3⟩, g', by omega, by omega, by omega, by omega, ?_, rfl, by go_num, hm2.out, ?_, (Blk.set HBC.out 2 _), (gb_own Hg2.out (Nat.le_refl _) _ _), ?_, hst3⟩
          · have : L.length - k - (1 + h) = L.length - (k + 1 + h) := by omega
            rw [this]
          · have := ho.out; unfold Hid; omega
          · have := hfu.out; unfold Hid; omega
        case measure => simp [sliceLen]; omega
      · go_wp2_with fail
        refine (hH.out _).mono ?_
        rintro e w2 ⟨rfl, hg2⟩
        have B2 := HX1.out w2 hg2
        have z0 := B2.cell 0
        have z1 := B2.cell 1
        have z2 := B2.cell 2
        have z3 := B2.cell 3
        simp at z0 z1 z2 z3
        have BC := (Blk.alloc HB.out (.cells #[.int .i64 4, .int .i64 t, .int .i64 f, .int .i64 3] 35)).keep hg2 (by simp)
        have c0' := BC.cell 0
        have c1' := BC.cell 1
        have c2' := BC.cell 2
        have c3' := BC.cell 3
        have cf' := BC.fz
        simp [clCells] at c0' c1' c2' c3'
        have HBC := hid BC
        have Hg2 := hid (gb_trans Hg.out (gb_unalloc hg2))
        clear hg2 hH t0 t1 t2 t3 B2 BC a0 a1 a2 a3 af
        go_wp2_with fail
        go_roundw
        case rel =>
          refine ⟨k + 1 + h, o + (1 + h) * 4, cc - (1 + h), s + 1, Sc.stepM r ⟨4, t, f, 3⟩ ⟨a, c0, c1, c2, c3⟩, g', by omega, by omega, by omega, by omega, ?_, rfl, by go_num, hm2.out, ?_, (Blk.set HBC.out 3 _), (gb_own Hg2.out (Nat.le_refl _) _ _), ?_, hst3⟩
          · have : L.length - k - (1 + h) = L.length - (k + 1 + h) := by omega
            rw [this]
          · have := ho.out; unfold Hid; omega
          · have := hfu.out; unfold Hid; omega
        case measure => simp [sliceLen]; omega
    have e1 : (op == 1) = false := by simp [q1]
    have e2 : (op == 2) = false := by simp [q2]
    have e3 : (op == 3) = false := by simp [q3]
    have e4 : (op == 4) = false := by simp [q4]
    have hv : Hid (Sc.stepM r ⟨op, t, f, kk⟩ ⟨a, c0, c1, c2, c3⟩ = ⟨Sc.becomes ⟨op, t, f, kk⟩ a, c0, c1, c2, c3⟩) := by
      unfold Hid Sc.stepM; rw [if_neg q1, if_neg q2, if_neg q3, if_neg q4]
    generalize Sc.becomes ⟨op, t, f, kk⟩ a = zz at *
    clear y1 y2 q1 q2 q3 q4
    go_wp2_with fail
    refine (hH.out _).mono ?_
    rintro e w2 ⟨rfl, hg2⟩
    have B2 := HX1.out w2 hg2
    have z0 := B2.cell 0
    have z1 := B2.cell 1
    have z2 := B2.cell 2
    have z3 := B2.cell 3
    simp at z0 z1 z2 z3
    have BC := (Blk.alloc HB.out (.cells #[.int .i64 op, .int .i64 t, .int .i64 f, .int .i64 kk] 35)).keep hg2 (by simp)
    have c0' := BC.cell 0
    have c1' := BC.cell 1
    have c2' := BC.cell 2
    have c3' := BC.cell 3
    have cf' := BC.fz
    simp [clCells] at c0' c1' c2' c3'
    have HBC := hid BC
    have Hg2 := hid (gb_trans Hg.out (gb_unalloc hg2))
    clear hg2 hH t0 t1 t2 t3 B2 BC a0 a1 a2 a3 af
    go_wp2_with fail
    refine (hBc.out _).mono ?_
    rintro e w3 ⟨rfl, hg3⟩
    have Hg3 := hid hg3
    clear hg3 hBc
    go_wp2_with fail
    go_roundw
    case rel =>
      refine ⟨k + 1 + h, o + (1 + h) * 4, cc - (1 + h), s + 1, Sc.stepM r ⟨op, t, f, kk⟩ ⟨a, c0, c1, c2, c3⟩, g', by omega, by omega, by omega, by omega, ?_, ?_, by go_num, hm2.out, ?_, ?_, (gb_trans Hg2.out Hg3.out), ?_, hst3⟩
      · have : L.length - k - (1 + h) = L.length - (k + 1 + h) := by omega
        rw [this]
      · rw [hv.out]
      · have := ho.out; unfold Hid; omega
      · rw [hv.out]; exact Blk.keep HBC.out Hg3.out (by simp)
      · have := hfu.out; unfold Hid; omega
    case measure => simp [sliceLen]; omega

set_option maxRecDepth 100000 in
set_option maxHeartbeats 2000000 in
theorem refRun_any (w : World) (c r : ByteArray) (hc : c.size ≤ maxLen) (hm : r.size ≤ maxLen) :
    Calls Tryz.prog 27 #[.string c, .string r] w fun e w' => e = .returned (.tuple #[.int .i64 (Sc.runC c r).1, .int .i64 (Sc.runC c r).2.1, .int .i64 (Sc.runC c r).2.2]) ∧ w.grownBy w' none := by
  have hS0 := refSound_any w c hc
  have hD := hid (fun w => refDecode_any w c hc)
  unfold maxLen at hm
  by_cases hS : (Sc.sound c).1 = 0
  · rw [hS] at hS0
    have hok := hid (sound_doOk c hS)
    have hgo := hid (goesOn_of c hS)
    have hE := (sound_steps c hS).1
    have hle := decL_le c
    have hpos : 0 < (Sc.decL c).length := by
      by_cases q : (Sc.decL c).length = 0
      · unfold Sc.sound at hS
        rw [if_pos hE] at hS
        unfold Sc.soundL at hS
        rw [if_pos q] at hS
        cases hS
      · omega
    rw [hE] at hD
    by_cases hr : r.size = 20
    · have hv : Hid (Sc.runC c r = ((Sc.runL r (Sc.decL c)).1, (Sc.runL r (Sc.decL c)).2, 0)) := by unfold Hid Sc.runC; rw [if_pos hS, if_pos hr]
      have er : ((r.size : Int) != 20) = false := by rw [hr]; rfl
      have Hr := hid hr
      generalize (Sc.sound c).2 = S2 at *
      generalize Sc.decL c = L at *
      clear hS hr hE
      go_enter Tryz.func27, Tryz.ntmps27
      go_wp2_with fail
      refine hS0.mono ?_
      rintro e w1 ⟨rfl, hg1⟩
      clear hS0
      go_wp2_with fail
      refine (hD.out _).mono ?_
      rintro e w2 ⟨vv, rfl, hg2, ho2⟩
      clear hD
      obtain ⟨sa, sc, rfl⟩ := owns_slice ho2
      have hcap : L.length ≤ sc ∧ sc ≤ maxLen := by
        rcases ho2.2 with ⟨h1, h2⟩ | ⟨g, cap, cur, h1, h2, h3, h4, h5, h6, h7⟩
        · omega
        · simp only [Value.slice.injEq] at h1
          obtain ⟨_, _, rfl⟩ := h1
          exact ⟨h4, h5⟩
      have hX := rRun_list w2 sa sc L r Hr.out (InsAt.of_own rfl ho2) hcap.1 hcap.2 hle hok.out hgo.out hpos
      clear ho2 hcap
      go_wp2_with fail
      refine hX.mono ?_
      rintro e w3 ⟨rfl, hg3⟩
      clear hX
      go_wp2_with fail
      refine bodyPost_ret (v := .tuple #[.int .i64 (Sc.runL r L).1, .int .i64 (Sc.runL r L).2, .int .i64 0]) (by simp [results, Tryz.results27, go_sem]) rfl ?_
      rw [hv.out]
      exact ⟨rfl, gb_trans (gb_trans hg1 hg2) hg3⟩
    · have hv : Hid (Sc.runC c r = (0, 0, 9)) := by unfold Hid Sc.runC; rw [if_pos hS, if_neg hr]
      have er : ((r.size : Int) != 20) = true := by simp; omega
      generalize (Sc.sound c).2 = S2 at *
      clear hS hr hE hD
      go_enter Tryz.func27, Tryz.ntmps27
      go_wp2_with fail
      refine hS0.mono ?_
      rintro e w1 ⟨rfl, hg1⟩
      clear hS0
      go_wp2_with fail
      refine bodyPost_ret (v := .tuple #[.int .i64 0, .int .i64 0, .int .i64 9]) (by simp [results, Tryz.results27, go_sem]) rfl ?_
      rw [hv.out]
      exact ⟨rfl, hg1⟩
  · have hv : Hid (Sc.runC c r = (0, 0, (Sc.sound c).1)) := by unfold Hid Sc.runC; rw [if_neg hS]
    have e1 : ((Sc.sound c).1 != 0) = true := by simp [hS]
    generalize (Sc.sound c).1 = E at *
    generalize (Sc.sound c).2 = S2 at *
    clear hS hD
    go_enter Tryz.func27, Tryz.ntmps27
    go_wp2_with fail
    refine hS0.mono ?_
    rintro e w1 ⟨rfl, hg1⟩
    clear hS0
    go_wp2_with fail
    refine bodyPost_ret (v := .tuple #[.int .i64 0, .int .i64 0, .int .i64 E]) (by simp [results, Tryz.results27, go_sem]) rfl ?_
    rw [hv.out]
    exact ⟨rfl, hg1⟩

set_option maxRecDepth 100000 in
set_option maxHeartbeats 1000000 in
theorem texts_run (w : World) (o : Opr) (hk : o.kind = 6) (ho : OprOk o) :
    Calls Tryz.prog 14 #[.agg (opCells o)] w fun e w' => e = .returned (.bool true) ∧ w.grownBy w' none := by
  obtain ⟨kind, n, s, p, r, la, ll, lc⟩ := o
  obtain ⟨h1, h2, h3⟩ := ho
  simp only at hk h1 h2 h3
  subst hk
  simp only [opCells]
  have hC := fun w => run_any w s r h1 h3
  have hR := fun w => refRun_any w s r h1 h3
  generalize Sc.runC s r = X at *
  obtain ⟨a, b, d⟩ := X
  simp only at hC hR
  go_enter Tryz.func14, Tryz.ntmps14
  go_wp2_with fail
  refine (hC _).mono ?_
  rintro e w1 ⟨rfl, hg⟩
  have B0 := (Blk.new w 31 #[.int .i64 6, .int .i64 n, .string s, .string p, .string r, .slice la ll lc]).keep hg (by simp)
  have c2 := B0.cell 2
  have c4 := B0.cell 4
  simp at c2 c4
  clear hC
  go_wp2_with fail
  refine (hR _).mono ?_
  rintro e w2 ⟨rfl, hg2⟩
  clear hR
  go_wp2_with fail
  refine (num_any _ _).mono ?_
  rintro e w3 ⟨rfl, rfl⟩
  go_wp2_with fail
  go_ret
  exact ⟨by simp, gb_trans (gb_unalloc hg) hg2⟩

set_option maxRecDepth 100000 in
set_option maxHeartbeats 1000000 in
theorem plays_run (w : World) (bb : Nat) (o : Opr) (hk : o.kind = 6) (ho : OprOk o) :
    Calls Tryz.prog 12 #[.pointer (some ⟨bb, 0, none⟩), .agg (opCells o)] w fun e w' => e = .returned (.bool true) ∧ w.grownBy w' none := by
  have hT := fun w => texts_run w o hk ho
  obtain ⟨kind, n, s, p, r, la, ll, lc⟩ := o
  simp only at hk
  subst hk
  simp only [opCells] at hT ⊢
  go_enter Tryz.func12, Tryz.ntmps12
  go_wp2_with fail
  refine (hT _).mono ?_
  rintro e w1 ⟨rfl, hg⟩
  clear hT
  go_wp2_with fail
  go_ret
  exact ⟨rfl, gb_unalloc hg⟩

set_option maxHeartbeats 1000000 in
theorem runs_walk (w : World) (sa : Option Addr) (sc : Nat) (ops : List Opr) (hops : OpsAt w sa ops) (hlen : ops.length ≤ maxLen) :
    Calls Tryz.prog 7 #[.slice sa ops.length sc] w fun e w' => e = .returned (.bool true) ∧ Below w.heap.size w w' := by
  have hU := upTo_any w sa sc ops hops hlen 6 6 (fun w bb o h1 h2 ho => plays_run w bb o (by omega) ho)
  clear hops
  go_enter Tryz.func7, Tryz.ntmps7
  go_wp2_with fail
  refine hU.mono ?_
  rintro e w1 ⟨rfl, hg⟩
  clear hU
  go_wp2_with fail
  go_ret
  exact ⟨rfl, gb_below hg⟩
end Go.Proofs.YtpamlgdopmjooaaGreat
