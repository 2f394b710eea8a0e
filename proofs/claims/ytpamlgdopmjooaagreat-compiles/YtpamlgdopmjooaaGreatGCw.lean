import Derived.Test.YtpamlgdopmjooaaGreatGCp
import Derived.Test.YtpamlgdopmjooaaGreatGIwc
import Derived.Test.YtpamlgdopmjooaaGreatGJd
/- Terms that are only read; Behind. -/
namespace Go.Proofs.YtpamlgdopmjooaaGreat
open Go.RowKit
set_option linter.unusedVariables false
set_option linter.unusedSimpArgs false

/-- terms, as they lie behind an address -/
structure TmsAt (w : World) (sa : Option Addr) (c : Nat) (ts : List Sv.Tm) : Prop where
  cap : ts.length ≤ c ∧ c ≤ maxLen
  cells : ∀ k (h : k < ts.length), ∃ b off, sa = some ⟨b, off, none⟩ ∧ b < w.heap.size ∧ ∀ j, j < 7 → w.cell? ⟨b, off + k * 7 + j, none⟩ = (tmCells ts[k])[j]?
theorem TmsAt.of_own {w : World} {base : Nat} {sa : Option Addr} {n sc : Nat} {ts : List Sv.Tm} (hn : n = ts.length) (h : w.ownsRow base 153 7 (.slice sa n sc) n (tmsCells ts)) : TmsAt w sa sc ts := by
  subst hn
  refine ⟨?_, fun k hk => ?_⟩
  · rcases h.2 with ⟨h1, h2⟩ | ⟨g, cap, cur, h1, _, _, h4, h5, _⟩
    · simp only [Value.slice.injEq] at h1
      unfold maxLen
      omega
    · simp only [Value.slice.injEq] at h1
      rw [h1.2.2]
      exact ⟨h4, h5⟩
  · obtain ⟨g, h1, h2, h3⟩ := owns_tm h k hk
    exact ⟨g, 0, h1, h2, fun j hj => by rw [Nat.zero_add]; exact h3 j hj⟩
theorem TmsAt.tail {w : World} {b off c : Nat} {x : Sv.Tm} {l : List Sv.Tm} (h : TmsAt w (some ⟨b, off, none⟩) c (x :: l)) : TmsAt w (some ⟨b, off + 7, none⟩) (c - 1) l := by
  obtain ⟨⟨h1, h2⟩, h3⟩ := h
  simp only [List.length_cons] at h1
  refine ⟨⟨by omega, by omega⟩, fun k hk => ?_⟩
  obtain ⟨b', off', q1, q2, q3⟩ := h3 (k + 1) (by simp; omega)
  cases q1
  refine ⟨b, off + 7, rfl, q2, fun j hj => ?_⟩
  have := q3 j hj
  have e : off + 7 + k * 7 + j = off + (k + 1) * 7 + j := by omega
  rw [e]
  simpa using this
theorem TmsAt.nil {w : World} {sa : Option Addr} {c : Nat} (h : c ≤ maxLen) : TmsAt w sa c [] := ⟨⟨Nat.zero_le _, h⟩, fun k hk => by simp at hk⟩
theorem TmsAt.below {w w' : World} {sa : Option Addr} {c : Nat} {ts : List Sv.Tm} (h : TmsAt w sa c ts) {base : Nat} (hb : Below base w w') (hl : ∀ b off, sa = some ⟨b, off, none⟩ → b < base) : TmsAt w' sa c ts := by
  refine ⟨h.cap, fun k hk => ?_⟩
  obtain ⟨b, off, q1, q2, q3⟩ := h.cells k hk
  exact ⟨b, off, q1, Nat.lt_of_lt_of_le q2 hb.size, fun j hj => (World.cell?_of_block (a := ⟨b, off + k * 7 + j, none⟩) (hb.block b (hl b off q1))).trans (q3 j hj)⟩
/-- the block of an address -/
def under (sa : Option Addr) (base : Nat) : Prop := ∀ a, sa = some a → a.block < base

set_option maxRecDepth 100000 in
set_option maxHeartbeats 4000000 in
theorem behind_any (w : World) (sa : Option Addr) (c : Nat) (ts : List Sv.Tm) (h : TmsAt w sa c ts) (hl : ts.length ≤ 601) (base : Nat) (hb : under sa base) :
    Calls Tryz.prog 134 #[.slice sa ts.length c] w fun e w' => ∃ sa' c', e = .returned (.slice sa' (Sc.skip 1 ts).length c') ∧ TmsAt w sa' c' (Sc.skip 1 ts) ∧ under sa' base ∧ w' = w := by
  have H := hid h
  clear h
  go_enter Tryz.func134, Tryz.ntmps134
  go_wp2_with fail
  go_loopw [0, 3] (fun v i wr => ∃ (m : Nat) (l : List Sv.Tm) (sa' : Option Addr) (c' : Nat), i = .int .i64 (m : Int) ∧ v = .slice sa' l.length c' ∧ TmsAt w sa' c' l ∧ under sa' base ∧ l.length ≤ 601 ∧ m + l.length ≤ 1300 ∧ m + 2 * l.length ≤ 1300 ∧ Sc.skip m l = Sc.skip 1 ts ∧ wr = w) (fun v i wr => match v with | .slice _ n _ => n | _ => 0)
  case atStart => exact ⟨1, ts, sa, c, rfl, rfl, H.out, hb, hl, by omega, by omega, rfl, rfl⟩
  case round =>
    obtain ⟨m, l, sa', c', rfl, rfl, ht, hb', hl', hm, hm2, hsk, rfl⟩ := hrel
    clear H
    cases m with
    | zero =>
      have hE : Hid (l = Sc.skip 1 ts) := by unfold Hid; rw [← hsk]; simp [Sc.skip]
      have HT := hid ht
      clear hsk ht
      go_wp2_with fail
      go_ret
      rw [← hE.out]
      exact ⟨sa', c', rfl, HT.out, hb', rfl⟩
    | succ m =>
      cases l with
      | nil =>
        have hE : Hid ([] = Sc.skip 1 ts) := by unfold Hid; rw [← hsk]; rfl
        have HT := hid ht
        have d0 : ((m + 1 : Nat) : Int) > 0 := by omega
        clear hsk ht
        simp only [List.length_nil]
        go_wp2_with fail
        go_ret
        rw [← hE.out]
        exact ⟨sa', c', rfl, HT.out, hb', rfl⟩
      | cons x l =>
        obtain ⟨b, off, rfl, hbl, hcell⟩ := ht.cells 0 (by simp)
        have t0 := hcell 0 (by omega)
        simp [tmCells] at t0
        have hpr := parts_range x.kind
        have hP := hid (parts_any wr x.kind)
        simp only [List.length_cons] at hl' hm hm2 ⊢
        have hsk2 : Hid (Sc.skip (m + (Sv.parts x.kind).toNat) l = Sc.skip 1 ts) := hsk
        obtain ⟨p, hp⟩ : ∃ p : Nat, Sv.parts x.kind = (p : Int) := ⟨(Sv.parts x.kind).toNat, by omega⟩
        have hpt : (Sv.parts x.kind).toNat = p := by omega
        rw [hp] at hP hpr
        rw [hpt] at hsk2
        have d0 : ((m + 1 : Nat) : Int) > 0 := by omega
        have d1 : ((l.length + 1 : Nat) : Int) > 0 := by omega
        have hcap := ht.cap
        simp only [List.length_cons] at hcap
        have HT := hid ht
        have hbb := hb' _ rfl
        unfold maxLen at hcap
        clear hsk ht hcell hp hpt
        by_cases hc1 : c' = 1
        · have hln : l = [] := by cases l with | nil => rfl | cons => simp at hcap; omega
          subst hc1 hln
          simp only [List.length_nil]
          go_wp2_with fail
          refine hP.out.mono ?_
          rintro e w2 ⟨rfl, rfl⟩
          go_wp2_with fail
          go_roundw
          case rel => exact ⟨m + p, [], _, 0, by go_num, rfl, TmsAt.nil (by unfold maxLen; omega), hb', by simp, by simp; omega, by simp; omega, hsk2.out, by trivial⟩
          case measure => simp
        · have hc2 : ¬ ((c' : Int) = 1) := by omega
          go_wp2_with fail
          refine hP.out.mono ?_
          rintro e w2 ⟨rfl, rfl⟩
          go_wp2_with fail
          go_roundw
          case rel => exact ⟨m + p, l, some ⟨b, off + 7, none⟩, c' - 1, by go_num, rfl, HT.out.tail, fun a ha => by cases ha; exact hbb, by omega, by omega, by omega, hsk2.out, by trivial⟩
          case measure => simp
end Go.Proofs.YtpamlgdopmjooaaGreat
/- builder: end, load, near, test, bits. -/
namespace Go.Proofs.YtpamlgdopmjooaaGreat
open Go.RowKit
set_option linter.unusedVariables false
set_option linter.unusedSimpArgs false

/-- a builder -/
abbrev BldAt (w : World) (base bb : Nat) (va : Option Addr) (vc : Nat) (N : List Sc.In) : Prop := CodeAt w base bb 118 [] va vc N
/-- how a builder's method ends that tells a place -/
def PlEnd (w : World) (base bb : Nat) (a : List Sc.In × Nat) (e : Ending) (w' : World) : Prop :=
  e = .returned (.int .i64 ((a.2 : Int) - 1)) ∧ KeptC base bb w w' ∧ ∃ va vc, BldAt w' base bb va vc a.1
theorem gd_rng {N : List Sc.In} (h : Gd N) (hl : N.length ≤ 1024) : ∀ i (h : i < N.length), InRng N[i] := (good_sound h.good hl).1.2
theorem kc_size {base bb : Nat} {w w' : World} (h : KeptC base bb w w') (hb : base ≤ w.heap.size) : base ≤ w'.heap.size := Nat.le_trans hb h.below.size

set_option maxRecDepth 100000 in
set_option maxHeartbeats 4000000 in
theorem cEnd_any (w : World) (base bb : Nat) (va : Option Addr) (vc : Nat) (N : List Sc.In) (h : BldAt w base bb va vc N) (hN : N.length < 1024) (hbb : base ≤ bb) (hbs : base ≤ w.heap.size) (v : Int) :
    Calls Tryz.prog 93 #[.pointer (some ⟨bb, 0, none⟩), .int .i64 v] w (PlEnd w base bb (⟨15, 0, 0, v⟩ :: N, N.length + 1)) := by
  have hA := hid (bAdd0_any w base bb _ _ va vc N h (by omega) hbb hbs ⟨15, 0, 0, v⟩)
  simp only [inCells] at hA
  clear h
  go_enter Tryz.func93, Tryz.ntmps93
  go_wp2_with fail
  refine hA.out.mono ?_
  rintro e w1 ⟨rfl, hk, va1, vc1, hB⟩
  have hF := hid (bFirst_any w1 base bb _ _ va1 vc1 _ hB (by simp only [List.length_cons]; omega))
  have HB := hid hB
  have HK := hid hk
  clear hA hB hk
  go_wp2_with fail
  refine hF.out.mono ?_
  rintro e w2 ⟨rfl, rfl⟩
  clear hF
  go_wp2_with fail
  go_ret
  exact ⟨by first | rfl | exact ret_int (by simp) | exact ret_int (by simp; omega), HK.out, _, _, HB.out⟩
set_option maxRecDepth 100000 in
set_option maxHeartbeats 4000000 in
theorem cLoad_any (w : World) (base bb : Nat) (va : Option Addr) (vc : Nat) (N : List Sc.In) (h : BldAt w base bb va vc N) (hN : N.length < 1024) (hbb : base ≤ bb) (hbs : base ≤ w.heap.size) (v : Int) :
    Calls Tryz.prog 142 #[.pointer (some ⟨bb, 0, none⟩), .int .i64 v] w (PlEnd w base bb (Sc.cLoad v N, N.length + 1)) := by
  have hA := hid (bAdd0_any w base bb _ _ va vc N h (by omega) hbb hbs ⟨1, 0, 0, v⟩)
  simp only [inCells] at hA
  clear h
  go_enter Tryz.func142, Tryz.ntmps142
  go_wp2_with fail
  refine hA.out.mono ?_
  rintro e w1 ⟨rfl, hk, va1, vc1, hB⟩
  have hF := hid (bFirst_any w1 base bb _ _ va1 vc1 _ hB (by simp only [List.length_cons]; omega))
  have HB := hid hB
  have HK := hid hk
  clear hA hB hk
  go_wp2_with fail
  refine hF.out.mono ?_
  rintro e w2 ⟨rfl, rfl⟩
  clear hF
  go_wp2_with fail
  go_ret
  exact ⟨by first | rfl | exact ret_int (by simp) | exact ret_int (by simp; omega), HK.out, _, _, HB.out⟩
set_option maxRecDepth 100000 in
set_option maxHeartbeats 4000000 in
theorem cNear_any (w : World) (base bb : Nat) (va : Option Addr) (vc : Nat) (N : List Sc.In) (h : BldAt w base bb va vc N) (hG : Gd N) (hN : N.length < 1024) (hbb : base ≤ bb) (hbs : base ≤ w.heap.size) (s : Nat) (hs : Pl N s) :
    Calls Tryz.prog 147 #[.pointer (some ⟨bb, 0, none⟩), .int .i64 ((s : Int) - 1)] w (PlEnd w base bb (Sc.cNear N s)) := by
  have s1 := hs.1
  have s2 := hs.2
  have hH := hid (bHop_any w base bb _ _ va vc N h (by omega) ((s : Int) - 1) (by omega) (by omega))
  by_cases q : N.length - s ≤ 15
  · have hv : Hid (Sc.cNear N s = (N, s)) := by unfold Hid Sc.cNear; rw [if_pos q]
    have d0 : (N.length : Int) - 1 - ((s : Int) - 1) ≤ 15 := by omega
    have HB := hid h
    clear h
    rw [hv.out]
    clear hv
    generalize hY0 : (s : Int) - 1 = S at hH d0 ⊢
    have hY := hid hY0
    have r0 : 0 ≤ S ∧ S ≤ 1024 := by omega
    clear hY0
    go_enter Tryz.func147, Tryz.ntmps147
    go_wp2_with fail
    refine hH.out.mono ?_
    rintro e w2 ⟨rfl, rfl⟩
    clear hH
    go_wp2_with fail
    go_ret
    exact ⟨ret_int hY.out.symm, KeptC.refl _ _ _, _, _, HB.out⟩
  · have hv : Hid (Sc.cNear N s = (Sc.jgo N s, (Sc.jgo N s).length)) := by unfold Hid Sc.cNear; rw [if_neg q]
    have d0 : ¬ ((N.length : Int) - 1 - ((s : Int) - 1) ≤ 15) := by omega
    have hA := hid (bAddGo_any w base bb _ _ va vc N h (by omega) hbb hbs s s1 s2 (gd_rng hG (by omega)))
    have hlen := (near_ok hG (by omega) hs).len
    rw [hv.out] at hlen ⊢
    simp only at hlen
    clear h
    generalize (s : Int) - 1 = S at *
    go_enter Tryz.func147, Tryz.ntmps147
    go_wp2_with fail
    refine hH.out.mono ?_
    rintro e w2 ⟨rfl, rfl⟩
    clear hH
    go_wp2_with fail
    refine hA.out.mono ?_
    rintro e w1 ⟨rfl, hk, va1, vc1, hB⟩
    have hF := hid (bFirst_any w1 base bb _ _ va1 vc1 _ hB (by omega))
    have HB := hid hB
    have HK := hid hk
    clear hA hB hk
    go_wp2_with fail
    refine hF.out.mono ?_
    rintro e w2 ⟨rfl, rfl⟩
    clear hF
    go_wp2_with fail
    go_ret
    exact ⟨by first | rfl | exact ret_int (by simp) | exact ret_int (by simp; omega), HK.out, _, _, HB.out⟩
set_option maxRecDepth 100000 in
set_option maxHeartbeats 4000000 in
theorem cTest_any (w : World) (base bb : Nat) (va : Option Addr) (vc : Nat) (N : List Sc.In) (h : BldAt w base bb va vc N) (hG : Gd N) (hN : N.length + 3 ≤ 1024) (hbb : base ≤ bb) (hbs : base ≤ w.heap.size) (op k : Int) (hop : Sc.isTest op = true) (hk : 0 ≤ k ∧ k ≤ 65535) (y n : Nat) (hy : Pl N y) (hn : Pl N n) :
    Calls Tryz.prog 141 #[.pointer (some ⟨bb, 0, none⟩), .int .i64 op, .int .i64 k, .int .i64 ((y : Int) - 1), .int .i64 ((n : Int) - 1)] w (PlEnd w base bb (Sc.cTest op k N y n, (Sc.cTest op k N y n).length)) := by
  have hln := (ctest_ok hop hk hG (by omega) hy hn).len
  have hdef : Hid (Sc.cTest op k N y n = Sc.cAddTest op k (Sc.cNear (Sc.cNear (Sc.cNear N y).1 n).1 (Sc.cNear N y).2).1 (Sc.cNear (Sc.cNear (Sc.cNear N y).1 n).1 (Sc.cNear N y).2).2 (Sc.cNear (Sc.cNear N y).1 n).2) := rfl
  generalize Sc.cTest op k N y n = TT at *
  have A := near_ok hG (by omega) hy
  have hA := hid (cNear_any w base bb va vc N h hG (by omega) hbb hbs y hy)
  generalize Sc.cNear N y = a at *
  obtain ⟨a1, a2⟩ := a
  have al := A.len
  have al2 := A.ext.len
  simp only at al al2 hdef
  have hna := hn.ext A.ext
  simp only at hna
  have B := near_ok A.gd (by simp only; omega) hna
  have hB := hid (fun w' va vc hw hs => cNear_any w' base bb va vc a1 hw A.gd (by omega) hbb hs n hna)
  simp only at B
  generalize Sc.cNear a1 n = b at *
  obtain ⟨b1, b2⟩ := b
  have bl := B.len
  have bl2 := B.ext.len
  simp only at bl bl2 hdef
  have hab := A.pl.ext B.ext
  simp only at hab
  have C := near_ok B.gd (by simp only; omega) hab
  have hC := hid (fun w' va vc hw hs => cNear_any w' base bb va vc b1 hw B.gd (by omega) hbb hs a2 hab)
  simp only at C
  generalize Sc.cNear b1 a2 = c at *
  obtain ⟨c1, c2⟩ := c
  have cl := C.len
  have cl2 := C.ext.len
  simp only at cl cl2 hdef
  have hcp := C.pl
  have hbp := B.pl.ext C.ext
  simp only at hcp hbp
  have hD := hid (fun w' va vc hw hs => bAddTest_any w' base bb 118 [] va vc c1 hw (by omega) hbb hs op k c2 b2 hcp.1 hcp.2 hbp.1 hbp.2 (gd_rng C.gd (by omega)))
  have e1 : Hid ((if c2 = b2 then Sc.jgo c1 c2 else ⟨op, ((c1.length - c2 : Nat) : Int), ((c1.length - b2 : Nat) : Int), k⟩ :: c1) = TT) := by unfold Hid; rw [hdef.out]; rfl
  rw [e1.out] at hD
  have hS := hid hbs
  clear h A B C hdef e1 hcp hbp hab hna hG hy hn
  generalize (y : Int) - 1 = Y at *
  generalize (n : Int) - 1 = NN at *
  go_enter Tryz.func141, Tryz.ntmps141
  go_wp2_with fail
  refine hA.out.mono ?_
  rintro e w1 ⟨rfl, hk1, va1, vc1, hB1⟩
  have K1 := hid hk1
  have hB' := hid (hB.out w1 va1 vc1 hB1 (kc_size hk1 hS.out))
  clear hA hB hk1 hB1
  go_wp2_with fail
  refine hB'.out.mono ?_
  rintro e w2 ⟨rfl, hk2, va2, vc2, hB2⟩
  have K2 := hid (K1.out.trans hk2)
  have hC' := hid (hC.out w2 va2 vc2 hB2 (kc_size K2.out hS.out))
  clear hB' hC hk2 hB2 K1
  go_wp2_with fail
  refine hC'.out.mono ?_
  rintro e w3 ⟨rfl, hk3, va3, vc3, hB3⟩
  have K3 := hid (K2.out.trans hk3)
  have hD' := hid (hD.out w3 va3 vc3 hB3 (kc_size K3.out hS.out))
  clear hC' hD hk3 hB3 K2
  go_wp2_with fail
  refine hD'.out.mono ?_
  rintro e w4 ⟨rfl, hk4, va4, vc4, hB4⟩
  have K4 := hid (K3.out.trans hk4)
  have hF := hid (bFirst_any w4 base bb _ _ va4 vc4 _ hB4 (by omega))
  have B4 := hid hB4
  clear hD' hk4 hB4 K3
  go_wp2_with fail
  refine hF.out.mono ?_
  rintro e w5 ⟨rfl, rfl⟩
  clear hF
  go_wp2_with fail
  go_ret
  exact ⟨by first | rfl | exact ret_int (by simp) | exact ret_int (by simp; omega), K4.out, _, _, B4.out⟩
set_option maxRecDepth 100000 in
set_option maxHeartbeats 4000000 in
theorem cBits_any (word mask want : Int) (y n : Nat) (w : World) (base bb : Nat) (va : Option Addr) (vc : Nat) (N : List Sc.In) (h : BldAt w base bb va vc N) (hG : Gd N) (hN : ¬ (mask = 0 ∧ want = 0) → N.length + 3 ≤ 1024 ∧ (Sc.cAnd mask (Sc.cTest 11 want N y n)).length < 1024) (hbb : base ≤ bb) (hbs : base ≤ w.heap.size) (hm : 0 ≤ mask ∧ mask ≤ 65535) (hk : 0 ≤ want ∧ want ≤ 65535) (hy : Pl N y) (hn : Pl N n) :
    Calls Tryz.prog 144 #[.pointer (some ⟨bb, 0, none⟩), .int .i64 word, .int .i64 mask, .int .i64 want, .int .i64 ((y : Int) - 1), .int .i64 ((n : Int) - 1)] w (PlEnd w base bb (Sc.cBits word mask want N y n)) := by
  by_cases q : mask = 0 ∧ want = 0
  · have hv : Hid (Sc.cBits word mask want N y n = (N, y)) := by unfold Hid Sc.cBits; rw [if_pos q]
    rw [hv.out]
    have HB := hid h
    obtain ⟨rfl, rfl⟩ := q
    clear h hv hm hk
    generalize hY0 : (y : Int) - 1 = Y
    have hY := hid hY0
    clear hY0
    generalize (n : Int) - 1 = NN
    go_enter Tryz.func144, Tryz.ntmps144
    go_wp2_with fail
    go_ret
    exact ⟨ret_int hY.out.symm, KeptC.refl _ _ _, _, _, HB.out⟩
  · have hv : Hid (Sc.cBits word mask want N y n = (Sc.cLoad word (Sc.cAnd mask (Sc.cTest 11 want N y n)), (Sc.cAnd mask (Sc.cTest 11 want N y n)).length + 1)) := by unfold Hid Sc.cBits; rw [if_neg q]
    rw [hv.out]
    obtain ⟨hN, hM⟩ := hN q
    have T := ctest_ok (op := 11) rfl hk hG (by omega) hy hn
    have tl := T.len
    have hT := hid (cTest_any w base bb va vc N h hG (by omega) hbb hbs 11 want rfl hk y n hy hn)
    generalize Sc.cTest 11 want N y n = M at *
    have hS := hid hbs
    have hdA : Hid (Sc.cAnd mask M = if mask = 65535 then M else ⟨5, 0, 0, mask⟩ :: M) := rfl
    have hM1 : M.length < 1024 := by
      have := hM
      rw [hdA.out] at this
      split at this
      · exact this
      · simp only [List.length_cons] at this; omega
    have hA := hid (fun w' va vc hw hs => bAdd0_any w' base bb 118 [] va vc M hw (by omega) hbb hs ⟨5, 0, 0, mask⟩)
    simp only [inCells] at hA
    have q2 : (mask == 0 && want == 0) = false := by
      rw [Bool.eq_false_iff]; intro k; simp at k; exact q k
    have q3 : mask = 0 → ¬ want = 0 := fun a b => q ⟨a, b⟩
    clear h hv T hy hn hG
    generalize (y : Int) - 1 = Y at *
    generalize (n : Int) - 1 = NN at *
    by_cases qm : mask = 65535
    · have hd : Hid (Sc.cAnd mask M = M) := by unfold Hid; rw [hdA.out, if_pos qm]
      have hL := hid (fun w' va vc hw hs => cLoad_any w' base bb va vc M hw (by omega) hbb hs word)
      rw [hd.out]
      subst qm
      clear hdA hd hA q q2 q3
      go_enter Tryz.func144, Tryz.ntmps144
      go_wp2_with fail
      refine hT.out.mono ?_
      rintro e w1 ⟨rfl, hk1, va1, vc1, hB1⟩
      have K1 := hid hk1
      have hL' := hid (hL.out w1 va1 vc1 hB1 (kc_size hk1 hS.out))
      clear hT hL hk1 hB1
      go_wp2_with fail
      refine hL'.out.mono ?_
      rintro e w2 ⟨rfl, hk2, va2, vc2, hB2⟩
      have K2 := hid (K1.out.trans hk2)
      have B2 := hid hB2
      clear hL' hk2 hB2 K1
      go_wp2_with fail
      go_ret
      exact ⟨by first | rfl | exact ret_int (by simp) | exact ret_int (by simp; omega), K2.out, _, _, B2.out⟩
    · have hd : Hid (Sc.cAnd mask M = ⟨5, 0, 0, mask⟩ :: M) := by unfold Hid; rw [hdA.out, if_neg qm]
      rw [hd.out] at hM
      have hL := hid (fun w' va vc hw hs => cLoad_any w' base bb va vc (⟨5, 0, 0, mask⟩ :: M) hw hM hbb hs word)
      rw [hd.out]
      have e1 : (mask != 65535) = true := by simp [qm]
      by_cases qz : mask = 0
      · have qw := q3 qz
        subst qz
        have e2 : (want == 0) = false := by simp [qw]
        clear hdA hd q q2 q3 qm e1
        go_enter Tryz.func144, Tryz.ntmps144
        go_wp2_with fail
        refine hT.out.mono ?_
        rintro e w1 ⟨rfl, hk1, va1, vc1, hB1⟩
        have K1 := hid hk1
        have hA' := hid (hA.out w1 va1 vc1 hB1 (kc_size hk1 hS.out))
        clear hT hA hk1 hB1
        go_wp2_with fail
        refine hA'.out.mono ?_
        rintro e w2 ⟨rfl, hk2, va2, vc2, hB2⟩
        have K2 := hid (K1.out.trans hk2)
        have hL' := hid (hL.out w2 va2 vc2 hB2 (kc_size K2.out hS.out))
        clear hA' hk2 hB2 K1 hL
        go_wp2_with fail
        refine hL'.out.mono ?_
        rintro e w3 ⟨rfl, hk3, va3, vc3, hB3⟩
        have K3 := hid (K2.out.trans hk3)
        have B3 := hid hB3
        clear hL' hk3 hB3 K2
        go_wp2_with fail
        go_ret
        exact ⟨by first | rfl | exact ret_int (by simp) | exact ret_int (by simp; omega), K3.out, _, _, B3.out⟩
      · have e2 : (mask == 0) = false := by simp [qz]
        clear hdA hd q q2 q3 qm qz
        go_enter Tryz.func144, Tryz.ntmps144
        go_wp2_with fail
        refine hT.out.mono ?_
        rintro e w1 ⟨rfl, hk1, va1, vc1, hB1⟩
        have K1 := hid hk1
        have hA' := hid (hA.out w1 va1 vc1 hB1 (kc_size hk1 hS.out))
        clear hT hA hk1 hB1
        go_wp2_with fail
        refine hA'.out.mono ?_
        rintro e w2 ⟨rfl, hk2, va2, vc2, hB2⟩
        have K2 := hid (K1.out.trans hk2)
        have hL' := hid (hL.out w2 va2 vc2 hB2 (kc_size K2.out hS.out))
        clear hA' hk2 hB2 K1 hL
        go_wp2_with fail
        refine hL'.out.mono ?_
        rintro e w3 ⟨rfl, hk3, va3, vc3, hB3⟩
        have K3 := hid (K2.out.trans hk3)
        have B3 := hid hB3
        clear hL' hk3 hB3 K2
        go_wp2_with fail
        go_ret
        exact ⟨by first | rfl | exact ret_int (by simp) | exact ret_int (by simp; omega), K3.out, _, _, B3.out⟩
end Go.Proofs.YtpamlgdopmjooaaGreat
/- builder: order, comparison. -/
namespace Go.Proofs.YtpamlgdopmjooaaGreat
open Go.RowKit
set_option linter.unusedVariables false
set_option linter.unusedSimpArgs false

set_option maxRecDepth 100000 in
set_option maxHeartbeats 4000000 in
theorem cOrder_any (w : World) (base bb : Nat) (va : Option Addr) (vc : Nat) (N : List Sc.In) (h : BldAt w base bb va vc N) (hG : Gd N) (hbb : base ≤ bb) (hbs : base ≤ w.heap.size) (x : Sv.Tm) (hx : Sc.TmC x) (A B C : Nat) (hA : Pl N A) (hB : B = N.length) (hC : Pl N C) (hl : x.mh ≠ 0 → N.length + 5 ≤ 1024) :
    Calls Tryz.prog 143 #[.pointer (some ⟨bb, 0, none⟩), .agg (tmCells x), .int .i64 ((A : Int) - 1), .int .i64 ((B : Int) - 1), .int .i64 ((C : Int) - 1)] w (PlEnd w base bb (Sc.cOrder x N A B C)) := by
  have hw := hx.word
  have hwh := hx.wh
  have hbl := h.blk.lt
  have hne : w.heap.size ≠ bb := by omega
  have HX := hid hx
  have hBx := hid (Blk.new w 153 (tmCells x))
  have K0 := hid (KeptC.of (base := base) (bb := bb) (gb_alloc (gb_refl w none) (.cells (tmCells x) 153)) hbs)
  have H0 := hid (h.keep (gb_alloc (gb_refl w none) (.cells (tmCells x) 153)))
  have hs0 := kc_size K0.out hbs
  by_cases q : x.mh = 0
  · have hv : Hid (Sc.cOrder x N A B C = (N, B)) := by unfold Hid Sc.cOrder; rw [if_pos q]
    rw [hv.out]
    clear h hl hx hv HX hBx
    obtain ⟨kd, wd, mh, ml, rl, wh, wl⟩ := x
    simp only at q hw hwh
    subst q
    simp only [tmCells] at *
    generalize hY0 : (B : Int) - 1 = Y
    have hY := hid hY0
    clear hY0
    generalize (A : Int) - 1 = AA
    generalize (C : Int) - 1 = CC
    go_enter Tryz.func143, Tryz.ntmps143
    go_wp2_with fail
    go_ret
    exact ⟨ret_int hY.out.symm, K0.out, _, _, H0.out⟩
  · have hl' := hl q
    have hBp : Pl N B := by subst hB; exact ⟨hG.pos, Nat.le_refl _⟩
    have T := ctest_ok (op := 11) rfl hwh hG (by omega) hBp hC
    have l1 := T.len2 (Or.inl hB)
    have hMp : Pl (Sc.cTest 11 x.wh N B C) (Sc.cTest 11 x.wh N B C).length := ⟨T.gd.pos, Nat.le_refl _⟩
    have T2 := ctest_ok (op := 12) rfl hwh T.gd (by omega) (hA.ext T.ext) hMp
    have l2 := T2.len2 (Or.inr rfl)
    have hv : Hid (Sc.cOrder x N A B C = (Sc.cLoad (x.word + 2) (Sc.cTest 12 x.wh (Sc.cTest 11 x.wh N B C) A (Sc.cTest 11 x.wh N B C).length),
      (Sc.cTest 12 x.wh (Sc.cTest 11 x.wh N B C) A (Sc.cTest 11 x.wh N B C).length).length + 1)) := by unfold Hid Sc.cOrder; rw [if_neg q]
    rw [hv.out]
    have hT1 := hid (cTest_any _ base bb va vc N H0.out hG (by omega) hbb hs0 11 x.wh rfl hwh B C hBp hC)
    have hT2 := hid (fun w' va vc hw hs => cTest_any w' base bb va vc _ hw T.gd (by omega) hbb hs 12 x.wh rfl hwh A _ (hA.ext T.ext) hMp)
    generalize Sc.cTest 11 x.wh N B C = M at *
    have hT3 := hid (fun w' va vc hw hs => cLoad_any w' base bb va vc (Sc.cTest 12 x.wh M A M.length) hw (by omega) hbb hs (x.word + 2))
    generalize Sc.cTest 12 x.wh M A M.length = K at *
    have hS := hid hs0
    clear h hl hx hv HX T T2 hBp hMp hA hB hC hG H0
    obtain ⟨kd, wd, mh, ml, rl, wh, wl⟩ := x
    simp only at q hw hwh hT1 hT2 hT3
    have q1 : (mh == 0) = false := by simp [q]
    simp only [tmCells] at *
    generalize (A : Int) - 1 = AA at *
    generalize (B : Int) - 1 = BB at *
    generalize (C : Int) - 1 = CC at *
    generalize hMl : (M.length : Int) - 1 = ML at *
    go_enter Tryz.func143, Tryz.ntmps143
    go_wp2_with fail
    refine hT1.out.mono ?_
    rintro e w1 ⟨rfl, hk1, va1, vc1, hB1⟩
    have K1 := hid (K0.out.trans hk1)
    have B1 := hid (hk1.blk _ _ _ hBx.out hne (by decide))
    have hT2' := hid (hT2.out w1 va1 vc1 hB1 (kc_size hk1 hS.out))
    have hs1 := hid (kc_size hk1 hS.out)
    have c5 := B1.out.cell 5
    simp at c5
    clear hT1 hT2 hk1 hB1 K0 hBx
    simp only [hMl]
    go_wp2_with fail
    refine hT2'.out.mono ?_
    rintro e w2 ⟨rfl, hk2, va2, vc2, hB2⟩
    have K2 := hid (K1.out.trans hk2)
    have B2 := hid (hk2.blk _ _ _ B1.out hne (by decide))
    have hT3' := hid (hT3.out w2 va2 vc2 hB2 (kc_size hk2 hs1.out))
    have c1 := B2.out.cell 1
    simp at c1
    clear hT2' hT3 hk2 hB2 K1 B1 c5
    go_wp2_with fail
    refine hT3'.out.mono ?_
    rintro e w3 ⟨rfl, hk3, va3, vc3, hB3⟩
    have K3 := hid (K2.out.trans hk3)
    have B3 := hid hB3
    clear hT3' hk3 hB3 K2 B2 c1
    go_wp2_with fail
    go_ret
    exact ⟨by first | rfl | exact ret_int (by simp) | exact ret_int (by simp; omega), K3.out, _, _, B3.out⟩
set_option maxRecDepth 100000 in
set_option maxHeartbeats 4000000 in
theorem cComp_any (w : World) (base bb : Nat) (va : Option Addr) (vc : Nat) (N : List Sc.In) (h : BldAt w base bb va vc N) (hG : Gd N) (hbb : base ≤ bb) (hbs : base ≤ w.heap.size) (x : Sv.Tm) (hx : Sc.TmC x) (h4 : x.kind = 4) (y n : Nat) (hy : Pl N y) (hn : Pl N n) (hl : N.length + Sc.wt x ≤ 1024) :
    Calls Tryz.prog 135 #[.pointer (some ⟨bb, 0, none⟩), .agg (tmCells x), .int .i64 ((y : Int) - 1), .int .i64 ((n : Int) - 1)] w (PlEnd w base bb (Sc.cComp x N y n)) := by
  have hw := hx.word
  have hwt : Sc.wt x = if x.word < 4 then 4 else 9 := by unfold Sc.wt; rw [if_pos h4]
  have hwt4 : 4 ≤ Sc.wt x := by rw [hwt]; split <;> omega
  have hbl := h.blk.lt
  have hne : w.heap.size ≠ bb := by omega
  have hBx := hid (Blk.new w 153 (tmCells x))
  have K0 := hid (KeptC.of (base := base) (bb := bb) (gb_alloc (gb_refl w none) (.cells (tmCells x) 153)) hbs)
  have H0 := hid (h.keep (gb_alloc (gb_refl w none) (.cells (tmCells x) 153)))
  have hs0 := kc_size K0.out hbs
  have hS := hid hs0
  have h9 : x.mh ≠ 0 → Sc.wt x = 9 := by
    intro q
    rw [hwt]
    split
    · next k => exact absurd (hx.num h4 k).1 q
    · rfl
  by_cases r1 : x.rel = 1
  · have T := ctest_ok (op := 13) rfl hx.wl hG (by omega) hn hy
    have tl := T.len
    have hv : Hid (Sc.cComp x N y n = Sc.cOrder x (Sc.cLoad x.word (Sc.cTest 13 x.wl N n y)) n ((Sc.cTest 13 x.wl N n y).length + 1) y) := by unfold Hid Sc.cComp; rw [if_pos r1]
    rw [hv.out]
    have hT1 := hid (cTest_any _ base bb va vc N H0.out hG (by omega) hbb hs0 13 x.wl rfl hx.wl n y hn hy)
    generalize Sc.cTest 13 x.wl N n y = M at *
    have LE : Ext N (Sc.cLoad x.word M) := T.ext.trans (Ext.cons _ _)
    have ll : (Sc.cLoad x.word M).length = M.length + 1 := rfl
    have hT2 := hid (fun w' va vc hw hs => cLoad_any w' base bb va vc M hw (by omega) hbb hs x.word)
    have hT3 := hid (fun w' va vc hw hs => cOrder_any w' base bb va vc (Sc.cLoad x.word M) hw (load_gd T.gd (by omega)) hbb hs x hx n (M.length + 1) y (hn.ext LE) ll.symm (hy.ext LE) (fun q => by have := h9 q; omega))
    clear h hl hx hv T hn hy hG H0 h4 h9 hwt hwt4 LE ll
    generalize Sc.cOrder x (Sc.cLoad x.word M) n (M.length + 1) y = OO at *
    obtain ⟨kd, wd, mh, ml, rl, wh, wl⟩ := x
    simp only at r1 hw hT1 hT2 hT3
    subst r1
    simp only [tmCells] at *
    generalize (y : Int) - 1 = Y at *
    generalize (n : Int) - 1 = NN at *
    generalize hMl : ((M.length + 1 : Nat) : Int) - 1 = ML at *
    go_enter Tryz.func135, Tryz.ntmps135
    go_wp2_with fail
    refine hT1.out.mono ?_
    rintro e w1 ⟨rfl, hk1, va1, vc1, hB1⟩
    have K1 := hid (K0.out.trans hk1)
    have B1 := hid (hk1.blk _ _ _ hBx.out hne (by decide))
    have hT2' := hid (hT2.out w1 va1 vc1 hB1 (kc_size hk1 hS.out))
    have hs1 := hid (kc_size hk1 hS.out)
    have c1 := B1.out.cell 1
    simp at c1
    clear hT1 hT2 hk1 hB1 K0 hBx
    go_wp2_with fail
    refine hT2'.out.mono ?_
    rintro e w2 ⟨rfl, hk2, va2, vc2, hB2⟩
    have K2 := hid (K1.out.trans hk2)
    have B2 := hid (hk2.blk _ _ _ B1.out hne (by decide))
    have hT3' := hid (hT3.out w2 va2 vc2 hB2 (kc_size hk2 hs1.out))
    have t0 := B2.out.cell 0
    have t1 := B2.out.cell 1
    have t2 := B2.out.cell 2
    have t3 := B2.out.cell 3
    have t4 := B2.out.cell 4
    have t5 := B2.out.cell 5
    have t6 := B2.out.cell 6
    simp at t0 t1 t2 t3 t4 t5 t6
    clear hT2' hT3 hk2 hB2 K1 B1 c1
    simp only [hMl]
    go_wp2_with fail
    refine hT3'.out.mono ?_
    rintro e w3 ⟨rfl, hk3, va3, vc3, hB3⟩
    have K3 := hid (K2.out.trans hk3)
    have B3 := hid hB3
    clear hT3' hk3 hB3 K2 B2
    go_wp2_with fail
    go_ret
    exact ⟨rfl, K3.out, _, _, B3.out⟩
  by_cases r2 : x.rel = 2
  · have T := ctest_ok (op := 12) rfl hx.wl hG (by omega) hy hn
    have tl := T.len
    have hv : Hid (Sc.cComp x N y n = Sc.cOrder x (Sc.cLoad x.word (Sc.cTest 12 x.wl N y n)) y ((Sc.cTest 12 x.wl N y n).length + 1) n) := by unfold Hid Sc.cComp; rw [if_neg r1, if_pos r2]
    rw [hv.out]
    have hT1 := hid (cTest_any _ base bb va vc N H0.out hG (by omega) hbb hs0 12 x.wl rfl hx.wl y n hy hn)
    generalize Sc.cTest 12 x.wl N y n = M at *
    have LE : Ext N (Sc.cLoad x.word M) := T.ext.trans (Ext.cons _ _)
    have ll : (Sc.cLoad x.word M).length = M.length + 1 := rfl
    have hT2 := hid (fun w' va vc hw hs => cLoad_any w' base bb va vc M hw (by omega) hbb hs x.word)
    have hT3 := hid (fun w' va vc hw hs => cOrder_any w' base bb va vc (Sc.cLoad x.word M) hw (load_gd T.gd (by omega)) hbb hs x hx y (M.length + 1) n (hy.ext LE) ll.symm (hn.ext LE) (fun q => by have := h9 q; omega))
    clear h hl hx hv T hn hy hG H0 h4 h9 hwt hwt4 LE ll r1
    generalize Sc.cOrder x (Sc.cLoad x.word M) y (M.length + 1) n = OO at *
    obtain ⟨kd, wd, mh, ml, rl, wh, wl⟩ := x
    simp only at r2 hw hT1 hT2 hT3
    subst r2
    simp only [tmCells] at *
    generalize (y : Int) - 1 = Y at *
    generalize (n : Int) - 1 = NN at *
    generalize hMl : ((M.length + 1 : Nat) : Int) - 1 = ML at *
    go_enter Tryz.func135, Tryz.ntmps135
    go_wp2_with fail
    refine hT1.out.mono ?_
    rintro e w1 ⟨rfl, hk1, va1, vc1, hB1⟩
    have K1 := hid (K0.out.trans hk1)
    have B1 := hid (hk1.blk _ _ _ hBx.out hne (by decide))
    have hT2' := hid (hT2.out w1 va1 vc1 hB1 (kc_size hk1 hS.out))
    have hs1 := hid (kc_size hk1 hS.out)
    have c1 := B1.out.cell 1
    simp at c1
    clear hT1 hT2 hk1 hB1 K0 hBx
    go_wp2_with fail
    refine hT2'.out.mono ?_
    rintro e w2 ⟨rfl, hk2, va2, vc2, hB2⟩
    have K2 := hid (K1.out.trans hk2)
    have B2 := hid (hk2.blk _ _ _ B1.out hne (by decide))
    have hT3' := hid (hT3.out w2 va2 vc2 hB2 (kc_size hk2 hs1.out))
    have t0 := B2.out.cell 0
    have t1 := B2.out.cell 1
    have t2 := B2.out.cell 2
    have t3 := B2.out.cell 3
    have t4 := B2.out.cell 4
    have t5 := B2.out.cell 5
    have t6 := B2.out.cell 6
    simp at t0 t1 t2 t3 t4 t5 t6
    clear hT2' hT3 hk2 hB2 K1 B1 c1
    simp only [hMl]
    go_wp2_with fail
    refine hT3'.out.mono ?_
    rintro e w3 ⟨rfl, hk3, va3, vc3, hB3⟩
    have K3 := hid (K2.out.trans hk3)
    have B3 := hid hB3
    clear hT3' hk3 hB3 K2 B2
    go_wp2_with fail
    go_ret
    exact ⟨rfl, K3.out, _, _, B3.out⟩
  · have hv : Hid (Sc.cComp x N y n = Sc.cBits (x.word + 2) x.mh x.wh (Sc.cBits x.word x.ml x.wl N y n).1 (Sc.cBits x.word x.ml x.wl N y n).2 n) := by unfold Hid Sc.cComp; rw [if_neg r1, if_neg r2]
    rw [hv.out]
    obtain ⟨P, bt⟩ := cbits_ok (word := x.word) (mask := x.ml) (want := x.wl) (by omega) hx.ml hx.wl hG (by omega) hy hn _ rfl
    have pl := P.len
    have hm3 : x.word < 4 → x.ml = 65535 := fun k => (hx.num h4 k).2.2
    have hT1 := hid (cBits_any x.word x.ml x.wl y n _ base bb va vc N H0.out hG (fun q => ?s1) hbb hs0 hx.ml hx.wl hy hn)
    case s1 =>
      have T := ctest_ok (op := 11) rfl hx.wl hG (by omega) hy hn
      obtain ⟨a1, a2, a3, a4, a5⟩ := cand_ok T.gd hx.ml
      have tl := T.len
      refine ⟨by omega, ?_⟩
      by_cases k : x.word < 4
      · have := a4 (hm3 k); omega
      · rw [if_neg k] at hwt; omega
    generalize Sc.cBits x.word x.ml x.wl N y n = b at *
    obtain ⟨b1, b2⟩ := b
    simp only at bt pl ⊢
    have hT2 := hid (fun w' va vc hw hs => cBits_any (x.word + 2) x.mh x.wh b2 n w' base bb va vc b1 hw P.gd (fun q => ?s2) hbb hs hx.mh hx.wh P.pl (hn.ext P.ext))
    case s2 =>
      have k : ¬ x.word < 4 := fun k => q ⟨(hx.num h4 k).1, (hx.num h4 k).2.1⟩
      rw [if_neg k] at hwt
      have hb1 : b1.length ≤ N.length + 5 ∧ (b2 = b1.length ∨ b1 = N) := by
        refine ⟨by split at pl <;> split at pl <;> omega, ?_⟩
        rcases bt with bt | bt
        · exact Or.inl bt
        · cases bt; exact Or.inr rfl
      have T := ctest_ok (op := 11) rfl hx.wh P.gd (by simp only; omega) P.pl (hn.ext P.ext)
      simp only at T
      obtain ⟨a1, a2, a3, a4, a5⟩ := cand_ok T.gd hx.mh
      have tl := T.len
      have tl2 := T.len2
      refine ⟨by omega, ?_⟩
      rcases hb1.2 with k2 | k2
      · have := tl2 (Or.inl k2); omega
      · subst k2; omega
    generalize Sc.cBits (x.word + 2) x.mh x.wh b1 b2 n = OO at *
    clear h hl hx hv P hn hy hG H0 h4 h9 hwt hwt4 bt pl hm3
    obtain ⟨kd, wd, mh, ml, rl, wh, wl⟩ := x
    simp only at r1 r2 hw hT1 hT2
    have e1 : (rl == 1) = false := by simp [r1]
    have e2 : (rl == 2) = false := by simp [r2]
    simp only [tmCells] at *
    generalize (y : Int) - 1 = Y at *
    generalize (n : Int) - 1 = NN at *
    generalize hMl : (b2 : Int) - 1 = ML at *
    clear r1 r2
    go_enter Tryz.func135, Tryz.ntmps135
    go_wp2_with fail
    refine hT1.out.mono ?_
    rintro e w1 ⟨rfl, hk1, va1, vc1, hB1⟩
    have K1 := hid (K0.out.trans hk1)
    have B1 := hid (hk1.blk _ _ _ hBx.out hne (by decide))
    have hT2' := hid (hT2.out w1 va1 vc1 hB1 (kc_size hk1 hS.out))
    have c1 := B1.out.cell 1
    have c2 := B1.out.cell 2
    have c5 := B1.out.cell 5
    simp at c1 c2 c5
    clear hT1 hT2 hk1 hB1 K0 hBx
    simp only [hMl]
    go_wp2_with fail
    refine hT2'.out.mono ?_
    rintro e w2 ⟨rfl, hk2, va2, vc2, hB2⟩
    have K2 := hid (K1.out.trans hk2)
    have B2 := hid hB2
    clear hT2' hk2 hB2 K1 B1
    go_wp2_with fail
    go_ret
    exact ⟨rfl, K2.out, _, _, B2.out⟩
end Go.Proofs.YtpamlgdopmjooaaGreat
/- builder: condition, rule. -/
namespace Go.Proofs.YtpamlgdopmjooaaGreat
open Go.RowKit
set_option linter.unusedVariables false
set_option linter.unusedSimpArgs false

theorem TmsAt.kept {w w' : World} {sa : Option Addr} {c : Nat} {ts : List Sv.Tm} (h : TmsAt w sa c ts) {base bb : Nat} (hk : KeptC base bb w w') (hl : under sa base) : TmsAt w' sa c ts :=
  h.below hk.below (fun b off q => hl _ q)

set_option maxRecDepth 100000 in
set_option maxHeartbeats 8000000 in
theorem cCond_any (base bb : Nat) (hbb : base ≤ bb) : ∀ (g : Nat) (l : List Sv.Tm) (w : World) (va : Option Addr) (vc : Nat) (N : List Sc.In) (sa : Option Addr) (c y n : Nat), l.length < g → l.length ≤ 601 → (∀ x ∈ l, Sc.TmC x) → BldAt w base bb va vc N → Gd N → base ≤ w.heap.size → TmsAt w sa c l → under sa base →
    N.length + Sc.wts l ≤ 1024 + Sc.wts (Sc.skip 1 l) → Pl N y → Pl N n →
    Calls Tryz.prog 122 #[.pointer (some ⟨bb, 0, none⟩), .slice sa l.length c, .int .i64 ((y : Int) - 1), .int .i64 ((n : Int) - 1)] w (PlEnd w base bb (Sc.cCond g l N y n)) := by
  intro g
  induction g with
  | zero => intro l w va vc N sa c y n h; omega
  | succ g ih =>
    intro l w va vc N sa c y n hg h6 hl hB hG hbs hT hu hw hy hn
    cases l with
    | nil =>
      have HB := hid hB
      simp only [Sc.cCond, List.length_nil]
      generalize hY0 : (n : Int) - 1 = NN
      have hY := hid hY0
      clear hB hT ih hY0 hl hw
      generalize (y : Int) - 1 = Y
      go_enter Tryz.func122, Tryz.ntmps122
      go_wp2_with fail
      go_ret
      exact ⟨ret_int hY.out.symm, KeptC.refl _ _ _, _, _, HB.out⟩
    | cons x l =>
      have hx := hl x (by simp)
      have hl' : ∀ x ∈ l, Sc.TmC x := fun z hz => hl z (List.mem_cons_of_mem _ hz)
      simp only [List.length_cons] at hg h6 ⊢
      have d1 : ((l.length + 1 : Nat) : Int) > 0 := by omega
      have d2 : (((l.length + 1 : Nat) : Int) == 0) = false := by rw [beq_eq_false_iff_ne]; omega
      by_cases q : y = n
      · have hv : Hid (Sc.cCond (g + 1) (x :: l) N y n = (N, n)) := by unfold Hid; simp only [Sc.cCond]; rw [if_pos q]
        rw [hv.out]
        subst q
        have HB := hid hB
        generalize hY0 : (y : Int) - 1 = Y
        have hY := hid hY0
        have e1 : (Y == Y) = true := by simp
        clear hB hT ih hY0 hl hw hv hl' hx
        go_enter Tryz.func122, Tryz.ntmps122
        go_wp2_with fail
        go_ret
        exact ⟨ret_int hY.out.symm, KeptC.refl _ _ _, _, _, HB.out⟩
      obtain ⟨b, off, rfl, hbl, hcell⟩ := hT.cells 0 (by simp)
      have t0 := hcell 0 (by omega)
      have t1 := hcell 1 (by omega)
      have t2 := hcell 2 (by omega)
      have t3 := hcell 3 (by omega)
      have t4 := hcell 4 (by omega)
      have t5 := hcell 5 (by omega)
      have t6 := hcell 6 (by omega)
      simp [tmCells] at t0 t1 t2 t3 t4 t5 t6
      have hcap := hT.cap
      simp only [List.length_cons] at hcap
      have HT1 := hid hT.tail
      have HT0 : Hid (c = 1 → TmsAt w (some ⟨b, off, none⟩) 0 l) := by
        intro k
        have : l = [] := by cases l with | nil => rfl | cons => simp at hcap; omega
        subst this
        exact TmsAt.nil (by unfold maxLen; omega)
      have hu0 := hid hu
      have hu1 : Hid (under (some ⟨b, off + 7, none⟩) base) := by
        intro a ha
        cases ha
        exact hu ⟨b, off, none⟩ rfl
      unfold maxLen at hcap
      have hyn : (((y : Int) - 1) == ((n : Int) - 1)) = false := by rw [beq_eq_false_iff_ne]; omega
      have s2 : Sc.skip 1 (Sc.skip 1 l) = Sc.skip 2 l := skip_skip l 1 1
      have b1 := skip_wts l 1
      have b2 := skip_wts (Sc.skip 1 l) 1
      have b3 := skip_len l 1
      rw [s2] at b2
      have HB := hid hB
      have HS := hid hbs
      clear hcell hT hu hl hB hbs
      rcases hx.kind with k | k | k | k | k
      · have hv : Hid (Sc.cCond (g + 1) (x :: l) N y n = (N, y)) := by unfold Hid; simp only [Sc.cCond]; rw [if_neg q, if_pos k]
        rw [hv.out]
        rw [k] at t0
        generalize hY0 : (y : Int) - 1 = Y at hyn ⊢
        have hY := hid hY0
        clear ih hw hv hl' hx hY0 hy hn hG
        generalize (n : Int) - 1 = NN at *
        go_enter Tryz.func122, Tryz.ntmps122
        go_wp2_with fail
        all_goals
          go_ret
          exact ⟨ret_int hY.out.symm, KeptC.refl _ _ _, _, _, HB.out⟩
      · have hv : Hid (Sc.cCond (g + 1) (x :: l) N y n = Sc.cCond g l N n y) := by unfold Hid; simp only [Sc.cCond]; rw [if_neg q, if_neg (by omega), if_pos k]
        rw [hv.out]
        have e1 : Sc.skip 1 (x :: l) = Sc.skip 1 l := by simp [Sc.skip, k, Sv.parts]
        have e2 : Sc.wts (x :: l) = Sc.wts l := by simp [Sc.wts, Sc.wt, k]
        rw [e1, e2] at hw
        have hR := hid (fun sa' c' (ht : TmsAt w sa' c' l) hu' => ih l w va vc N sa' c' n y (by omega) (by omega) hl' HB.out hG HS.out ht hu' hw hn hy)
        rw [k] at t0
        clear ih hw hv hl' hx hy hn hG
        generalize Sc.cCond g l N n y = OO at *
        generalize (y : Int) - 1 = Y at *
        generalize (n : Int) - 1 = NN at *
        go_enter Tryz.func122, Tryz.ntmps122
        go_wp2_with fail
        all_goals
          refine (hR.out _ _ (by first | exact HT1.out | exact HT0.out (by assumption)) (by first | exact hu1.out | exact hu0.out)).mono ?_
          rintro e w1 ⟨rfl, hk1, va1, vc1, hB1⟩
          have K1 := hid hk1
          have B1 := hid hB1
          clear hk1 hB1 hR
          go_wp2_with fail
          go_ret
          exact ⟨rfl, K1.out, _, _, B1.out⟩
      · have hv : Hid (Sc.cCond (g + 1) (x :: l) N y n = Sc.cCond g l (Sc.cCond g (Sc.skip 1 l) N y n).1 (Sc.cCond g (Sc.skip 1 l) N y n).2 n) := by unfold Hid; simp only [Sc.cCond]; rw [if_neg q, if_neg (by omega), if_neg (by omega), if_pos k]
        rw [hv.out]
        have e1 : Sc.skip 1 (x :: l) = Sc.skip 2 l := by simp [Sc.skip, k, Sv.parts]
        have e2 : Sc.wts (x :: l) = Sc.wts l := by simp [Sc.wts, Sc.wt, k]
        rw [e1, e2] at hw
        have hls : ∀ z ∈ Sc.skip 1 l, Sc.TmC z := fun z hz => hl' z (skip_mem l 1 z hz)
        have A := ccond_ok g (Sc.skip 1 l) N y n (by omega) hls hG (by rw [s2]; omega) hy hn
        have hR1 := hid (fun sa' c' (ht : TmsAt w sa' c' (Sc.skip 1 l)) hu' => ih (Sc.skip 1 l) w va vc N sa' c' y n (by omega) (by omega) hls HB.out hG HS.out ht hu' (by rw [s2]; omega) hy hn)
        have hBh := hid (fun sa' c' (ht : TmsAt w sa' c' l) hu' => behind_any w sa' c' l ht (by omega) base hu')
        rw [s2] at A
        generalize Sc.cCond g (Sc.skip 1 l) N y n = a at *
        obtain ⟨a1, a2⟩ := a
        have al := A.len
        simp only at al ⊢
        have hR2 := hid (fun w' va vc sa' c' (hb : BldAt w' base bb va vc a1) hs (ht : TmsAt w' sa' c' l) hu' => ih l w' va vc a1 sa' c' a2 n (by omega) (by omega) hl' hb A.gd hs ht hu' (by omega) A.pl (hn.ext A.ext))
        rw [k] at t0
        clear ih hw hv hl' hx hy hn hG A al hls
        generalize Sc.cCond g l a1 a2 n = OO at *
        generalize (y : Int) - 1 = Y at *
        generalize (n : Int) - 1 = NN at *
        go_enter Tryz.func122, Tryz.ntmps122
        go_wp2_with fail
        all_goals
          refine (hBh.out _ _ (by first | exact HT1.out | exact HT0.out (by assumption)) (by first | exact hu1.out | exact hu0.out)).mono ?_
          rintro e w0 ⟨sb, cb, rfl, htb, hub, rfl⟩
          have hR1' := hid (hR1.out sb cb htb hub)
          clear hBh hR1 htb hub
          go_wp2_with fail
          refine hR1'.out.mono ?_
          rintro e w1 ⟨rfl, hk1, va1, vc1, hB1⟩
          have K1 := hid hk1
          have hs1 := hid (kc_size hk1 HS.out)
          have B1 := hid hB1
          clear hk1 hB1 hR1'
          go_wp2_with fail
          refine (hR2.out w1 va1 vc1 _ _ B1.out hs1.out (by first | exact HT1.out.kept K1.out hu1.out | exact (HT0.out (by assumption)).kept K1.out hu0.out) (by first | exact hu1.out | exact hu0.out)).mono ?_
          rintro e w2 ⟨rfl, hk2, va2, vc2, hB2⟩
          have K2 := hid (K1.out.trans hk2)
          have B2 := hid hB2
          clear hk2 hB2 hR2 K1 B1
          go_wp2_with fail
          go_ret
          exact ⟨rfl, K2.out, _, _, B2.out⟩
      · have hv : Hid (Sc.cCond (g + 1) (x :: l) N y n = Sc.cCond g l (Sc.cCond g (Sc.skip 1 l) N y n).1 y (Sc.cCond g (Sc.skip 1 l) N y n).2) := by unfold Hid; simp only [Sc.cCond]; rw [if_neg q, if_neg (by omega), if_neg (by omega), if_neg (by omega), if_pos k]
        rw [hv.out]
        have e1 : Sc.skip 1 (x :: l) = Sc.skip 2 l := by simp [Sc.skip, k, Sv.parts]
        have e2 : Sc.wts (x :: l) = Sc.wts l := by simp [Sc.wts, Sc.wt, k]
        rw [e1, e2] at hw
        have hls : ∀ z ∈ Sc.skip 1 l, Sc.TmC z := fun z hz => hl' z (skip_mem l 1 z hz)
        have A := ccond_ok g (Sc.skip 1 l) N y n (by omega) hls hG (by rw [s2]; omega) hy hn
        have hR1 := hid (fun sa' c' (ht : TmsAt w sa' c' (Sc.skip 1 l)) hu' => ih (Sc.skip 1 l) w va vc N sa' c' y n (by omega) (by omega) hls HB.out hG HS.out ht hu' (by rw [s2]; omega) hy hn)
        have hBh := hid (fun sa' c' (ht : TmsAt w sa' c' l) hu' => behind_any w sa' c' l ht (by omega) base hu')
        rw [s2] at A
        generalize Sc.cCond g (Sc.skip 1 l) N y n = a at *
        obtain ⟨a1, a2⟩ := a
        have al := A.len
        simp only at al ⊢
        have hR2 := hid (fun w' va vc sa' c' (hb : BldAt w' base bb va vc a1) hs (ht : TmsAt w' sa' c' l) hu' => ih l w' va vc a1 sa' c' y a2 (by omega) (by omega) hl' hb A.gd hs ht hu' (by omega) (hy.ext A.ext) A.pl)
        rw [k] at t0
        clear ih hw hv hl' hx hy hn hG A al hls
        generalize Sc.cCond g l a1 y a2 = OO at *
        generalize (y : Int) - 1 = Y at *
        generalize (n : Int) - 1 = NN at *
        go_enter Tryz.func122, Tryz.ntmps122
        go_wp2_with fail
        all_goals
          refine (hBh.out _ _ (by first | exact HT1.out | exact HT0.out (by assumption)) (by first | exact hu1.out | exact hu0.out)).mono ?_
          rintro e w0 ⟨sb, cb, rfl, htb, hub, rfl⟩
          have hR1' := hid (hR1.out sb cb htb hub)
          clear hBh hR1 htb hub
          go_wp2_with fail
          refine hR1'.out.mono ?_
          rintro e w1 ⟨rfl, hk1, va1, vc1, hB1⟩
          have K1 := hid hk1
          have hs1 := hid (kc_size hk1 HS.out)
          have B1 := hid hB1
          clear hk1 hB1 hR1'
          go_wp2_with fail
          refine (hR2.out w1 va1 vc1 _ _ B1.out hs1.out (by first | exact HT1.out.kept K1.out hu1.out | exact (HT0.out (by assumption)).kept K1.out hu0.out) (by first | exact hu1.out | exact hu0.out)).mono ?_
          rintro e w2 ⟨rfl, hk2, va2, vc2, hB2⟩
          have K2 := hid (K1.out.trans hk2)
          have B2 := hid hB2
          clear hk2 hB2 hR2 K1 B1
          go_wp2_with fail
          go_ret
          exact ⟨rfl, K2.out, _, _, B2.out⟩
      · have hv : Hid (Sc.cCond (g + 1) (x :: l) N y n = Sc.cComp x N y n) := by unfold Hid; simp only [Sc.cCond]; rw [if_neg q, if_neg (by omega), if_neg (by omega), if_neg (by omega), if_neg (by omega)]
        rw [hv.out]
        have e1 : Sc.skip 1 (x :: l) = l := by simp [Sc.skip, k, Sv.parts]
        have e2 : Sc.wts (x :: l) = Sc.wt x + Sc.wts l := rfl
        rw [e1, e2] at hw
        have hR := hid (cComp_any w base bb va vc N HB.out hG hbb HS.out x hx k y n hy hn (by omega))
        generalize Sc.cComp x N y n = OO at *
        clear ih hw hv hl' hx hy hn hG e1 e2
        obtain ⟨kd, wd, mh, ml, rl, wh, wl⟩ := x
        simp only at k t0 t1 t2 t3 t4 t5 t6
        subst k
        simp only [tmCells] at hR
        generalize (y : Int) - 1 = Y at *
        generalize (n : Int) - 1 = NN at *
        go_enter Tryz.func122, Tryz.ntmps122
        go_wp2_with fail
        all_goals
          refine hR.out.mono ?_
          rintro e w1 ⟨rfl, hk1, va1, vc1, hB1⟩
          have K1 := hid hk1
          have B1 := hid hB1
          clear hk1 hB1 hR
          go_wp2_with fail
          go_ret
          exact ⟨rfl, K1.out, _, _, B1.out⟩
end Go.Proofs.YtpamlgdopmjooaaGreat
/- builder.rule, instructions, Compile: the program's walks. -/
namespace Go.Proofs.YtpamlgdopmjooaaGreat
open Go.RowKit
set_option linter.unusedVariables false
set_option linter.unusedSimpArgs false

set_option maxRecDepth 100000 in
set_option maxHeartbeats 4000000 in
theorem cRule_any (w : World) (base bb : Nat) (va : Option Addr) (vc : Nat) (N : List Sc.In) (h : BldAt w base bb va vc N) (hG : Gd N) (hbb : base ≤ bb) (hbs : base ≤ w.heap.size) (sa : Option Addr) (c : Nat) (q : List Sv.Tm × Int) (hq : RlC q) (h6 : q.1.length ≤ 601) (hT : TmsAt w sa c q.1) (hu : under sa base) (hw : N.length + 1 + Sc.wts q.1 ≤ 1024) :
    Calls Tryz.prog 94 #[.pointer (some ⟨bb, 0, none⟩), .agg #[.slice sa q.1.length c, .int .i64 q.2]] w (CEnd w base bb 118 [] (Sc.cRule q N)) := by
  have hbl := h.blk.lt
  have hne : w.heap.size ≠ bb := by omega
  have hBx := hid (Blk.new w 101 #[.slice sa q.1.length c, .int .i64 q.2])
  have K0 := hid (KeptC.of (base := base) (bb := bb) (gb_alloc (gb_refl w none) (.cells #[.slice sa q.1.length c, .int .i64 q.2] 101)) hbs)
  have H0 := hid (h.keep (gb_alloc (gb_refl w none) (.cells #[.slice sa q.1.length c, .int .i64 q.2] 101)))
  have hs0 := kc_size K0.out hbs
  have hS := hid hs0
  have hF := hid (bFirst_any _ base bb _ _ va vc N H0.out (by omega))
  have hE := hid (cEnd_any _ base bb va vc N H0.out (by omega) hbb hs0 q.2)
  have A := built_ok hq hG hw
  have b1 := skip_wts q.1 1
  have hC := hid (fun w' va vc (hb : BldAt w' base bb va vc (⟨15, 0, 0, q.2⟩ :: N)) hs ht => cCond_any base bb hbb (q.1.length + 1) q.1 w' va vc (⟨15, 0, 0, q.2⟩ :: N) sa c (N.length + 1) N.length (by omega) h6 hq.1 hb (ret_gd (Or.inr hG) hq.2) hs ht hu (by simp only [List.length_cons]; omega) ⟨by omega, by simp⟩ ⟨hG.pos, by simp⟩)
  have HT := hid (hT.kept K0.out hu)
  have HU := hid hu
  have hv : Hid (Sc.cRule q N = (Sc.cBuilt q N).1.drop ((Sc.cBuilt q N).1.length - (Sc.cBuilt q N).2)) := rfl
  have hcb : Hid (Sc.cBuilt q N = Sc.cCond (q.1.length + 1) q.1 (⟨15, 0, 0, q.2⟩ :: N) (N.length + 1) N.length) := rfl
  rw [← hcb.out] at hC
  rw [hv.out]
  clear hv hcb
  generalize Sc.cBuilt q N = a at *
  obtain ⟨a1, a2⟩ := a
  have al := A.len
  have ap := A.pl
  simp only [List.length_cons] at al ap ⊢
  have hCut := hid (fun w' va vc (hb : BldAt w' base bb va vc a1) hs => bCut_any w' base bb _ _ va vc a1 hb (by omega) hbb hs a2 ap.1 ap.2)
  obtain ⟨ts, v⟩ := q
  simp only at hBx K0 H0 hF hE hC HT hCut hw ⊢
  clear h hG hq hT hu A al ap H0 h6
  generalize hMl : (N.length : Int) - 1 = ML at *
  generalize hMl2 : ((N.length + 1 : Nat) : Int) - 1 = ML2 at *
  go_enter Tryz.func94, Tryz.ntmps94
  go_wp2_with fail
  refine hF.out.mono ?_
  rintro e w1 ⟨rfl, rfl⟩
  clear hF
  simp only [hMl]
  go_wp2_with fail
  refine hE.out.mono ?_
  rintro e w2 ⟨rfl, hk2, va2, vc2, hB2⟩
  have K2 := hid (K0.out.trans hk2)
  have B2 := hid (hk2.blk _ _ _ hBx.out hne (by decide))
  have hC' := hid (hC.out w2 va2 vc2 hB2 (kc_size hk2 hS.out) (HT.out.kept hk2 HU.out))
  have hs2 := hid (kc_size hk2 hS.out)
  have c0 := B2.out.cell 0
  simp at c0
  clear hE hC hk2 hB2 K0 hBx HT
  simp only [hMl2]
  go_wp2_with fail
  refine hC'.out.mono ?_
  rintro e w3 ⟨rfl, hk3, va3, vc3, hB3⟩
  have K3 := hid (K2.out.trans hk3)
  have hD := hid (hCut.out w3 va3 vc3 hB3 (kc_size hk3 hs2.out))
  clear hC' hCut hk3 hB3 K2 B2 c0
  go_wp2_with fail
  refine hD.out.mono ?_
  rintro e w4 ⟨rfl, hk4, va4, vc4, hB4⟩
  have K4 := hid (K3.out.trans hk4)
  have B4 := hid hB4
  clear hD hk4 hB4 K3
  go_wp2_with fail
  try simp only [Exit.inBlock, Exit.then]
  refine bodyPost_end (results_none rfl _ _ _) rfl ?_
  exact ⟨rfl, K4.out, _, _, B4.out⟩

theorem rwts_drop : ∀ (R : List (List Sv.Tm × Int)) (k : Nat), rwts (R.drop k) ≤ rwts R := by
  intro R
  induction R with
  | nil => intro k; simp
  | cons q R ih =>
    intro k
    cases k with
    | zero => simp
    | succ k => have := ih k; simp only [List.drop_succ_cons, rwts]; omega
theorem cRules_step (d : Int) (R : List (List Sv.Tm × Int)) (k : Nat) (h : k < R.length) : Sc.cRules d (R.drop k) = Sc.cRule R[k] (Sc.cRules d (R.drop (k + 1))) ∧ rwts (R.drop k) = 1 + Sc.wts R[k].1 + rwts (R.drop (k + 1)) := by
  rw [List.drop_eq_getElem_cons h]
  exact ⟨rfl, rfl⟩
set_option maxRecDepth 100000 in
set_option maxHeartbeats 4000000 in
theorem cInstr_any (w : World) (pa : Option Addr) (pc : Nat) (R : List (List Sv.Tm × Int)) (d : Int) (base0 : Nat) (hP : PolAt w base0 (.slice pa R.length pc) R) (hR : ∀ q ∈ R, RlC q) (hR6 : ∀ q ∈ R, q.1.length ≤ 601) (hRl : R.length ≤ 601) (hd : 0 ≤ d ∧ d ≤ 65535) (hw : rwts R ≤ 1024) :
    Calls Tryz.prog 74 #[.agg #[.slice pa R.length pc, .int .i64 d]] w fun e w' => ∃ v, e = .returned v ∧ w.grownBy w' none ∧ w'.ownsRow w.heap.size 35 4 v (Sc.cRules d R).length (insCells (Sc.cRules d R)) := by
  have hok : ∀ k, Gd (Sc.cRules d (R.drop k)) ∧ (Sc.cRules d (R.drop k)).length ≤ rwts (R.drop k) := fun k => by
    have := crules_ok d hd (R.drop k) (fun q hq => hR q (List.mem_of_mem_drop hq)) (Nat.le_trans (rwts_drop R k) hw)
    exact ⟨this.1, this.2.1⟩
  have HO := hid hok
  have HW := hid (fun k => Nat.le_trans (rwts_drop R k) hw)
  obtain ⟨L, hL1, hL2, hL3⟩ := hP
  have HL1 := hid hL1
  have HL2 := hid hL2
  have HL3 := hid hL3
  have HR := hid hR
  have H6 := hid hR6
  obtain ⟨W1, hW1⟩ : ∃ W, W = w.alloc (.cells #[.slice pa R.length pc, .int .i64 d] 76) := ⟨_, rfl⟩
  obtain ⟨W2, hW2⟩ : ∃ W, W = W1.alloc (.cells #[.slice none 0 0] 118) := ⟨_, rfl⟩
  have hz1 : W1.heap.size = w.heap.size + 1 := by rw [hW1]; simp
  have B0 : Blk W2 w.heap.size 76 #[.slice pa R.length pc, .int .i64 d] := by rw [hW2, hW1]; exact (Blk.new w _ _).alloc _
  have G2 : w.grownBy W2 none := by rw [hW2, hW1]; exact gb_alloc (gb_alloc (gb_refl _ _) _) _
  have C0 : BldAt W2 w.heap.size (w.heap.size + 1) none 0 [] := by
    refine ⟨?_, World.ownsRow_nil _ _ _ _, by decide⟩
    rw [hW2, ← hz1]
    exact Blk.new _ _ _
  have hbs2 := G2.size
  have hE := hid (cEnd_any W2 w.heap.size (w.heap.size + 1) none 0 [] C0 (by simp) (by omega) hbs2 d)
  have HB0 := hid B0
  have HG2 := hid G2
  have c1 := B0.cell 1
  have c0 := B0.cell 0
  simp at c1 c0
  have e2 : Hid (W2 = (w.alloc (.cells #[.slice pa R.length pc, .int .i64 d] 76)).alloc (.cells #[.slice none 0 0] 118)) := by unfold Hid; rw [hW2, hW1]
  rw [e2.out] at hE c1 c0
  clear hL1 hL2 hL3 hR hR6 hok C0 B0 G2 hW1 hW2 hz1
  go_enter Tryz.func74, Tryz.ntmps74
  go_wp2_with fail
  refine hE.out.mono ?_
  rintro e w1 ⟨rfl, hk1, va1, vc1, hB1⟩
  rw [← e2.out] at hk1
  have K1 := hid hk1
  have B1 := hid hB1
  have x0 := (hk1.blk _ _ _ HB0.out (by omega) (by decide)).cell 0
  simp at x0
  clear hE hk1 hB1 c0 c1
  go_wp2_with fail
  go_loopw [4] (fun i wr => ∃ (k : Nat), k ≤ R.length ∧ i = .int .i64 ((k : Int) - 1) ∧ KeptC w.heap.size (w.heap.size + 1) W2 wr ∧ ∃ va vc, BldAt wr w.heap.size (w.heap.size + 1) va vc (Sc.cRules d (R.drop k))) (fun i wr => (intOf i + 1).toNat)
  case atStart =>
    refine ⟨R.length, Nat.le_refl _, rfl, K1.out, va1, vc1, ?_⟩
    rw [List.drop_eq_nil_of_le (Nat.le_refl _)]
    exact B1.out
  case round =>
    obtain ⟨k, hk, rfl, hkc, va, vc, hB⟩ := hrel
    have HK := hid hkc
    have HB := hid hB
    have hgw : w.grownBy wr none := by
      have a := HG2.out
      have b := hkc.below
      exact ⟨b.os.trans a.os, b.tape.trans a.tape, b.output.trans a.output, Nat.le_trans a.size b.size, fun j hj hr => (b.block j hj).trans (a.block j hj hr)⟩
    have HG := hid hgw
    have y0 := (hkc.blk _ _ _ HB0.out (by omega) (by decide)).cell 0
    simp at y0
    have hz := hgw.size
    have ho := HO.out k
    have how := HW.out k
    clear K1 B1 x0
    cases k with
    | zero =>
      have d0 : ¬ ((0 : Int) ≤ ((0 : Nat) : Int) - 1) := by omega
      rw [List.drop_zero] at hB ho how
      have hL := hid (bList_any wr _ _ _ _ va vc _ hB (by omega))
      clear hB hkc HB HO HW ho how
      go_wp2_with fail
      refine hL.out.mono ?_
      rintro e w3 ⟨v, rfl, hg3, ho3⟩
      have G3 := hid (gb_trans HG.out hg3)
      have O3 := hid (owns_base ho3 hz)
      clear hL hg3 ho3
      go_wp2_with fail
      go_ret
      exact ⟨_, rfl, G3.out, O3.out⟩
    | succ k =>
      have e0 : ((k + 1 : Nat) : Int) - 1 = (k : Int) := by omega
      rw [e0]
      have hlt : k < R.length := by omega
      have hlt' : (k : Int) < (R.length : Int) := by omega
      have hL1 := HL1.out
      have hLl : L.length = R.length := by rw [← hL1]; simp
      have hk' : k < L.length := by omega
      have hL2 := kept_none HL2.out hgw
      obtain ⟨pg, hpa, hpg, r0, r1⟩ := owns_rl hL2 k hk'
      have hLk : R[k] = (L[k].ts, L[k].k) := by
        have : R[k]? = (L.map fun x => (x.ts, x.k))[k]? := by rw [hL1]
        rw [List.getElem?_eq_getElem hlt, List.getElem?_map, List.getElem?_eq_getElem hk'] at this
        simpa using this
      have hTm0 := HL3.out L[k] (List.getElem_mem hk')
      obtain ⟨ta, tc, htv⟩ := owns_slice hTm0
      rw [htv] at hTm0 r0
      obtain ⟨st1, st2⟩ := cRules_step d R k hlt
      have hTA := TmsAt.of_own rfl (kept_none hTm0 hgw)
      have hun : under ta w.heap.size := by
        intro a ha
        exact (hTm0.lt a.block (by rw [ha]; rfl)).2
      have how2 := HW.out k
      have hA := hid (cRule_any wr w.heap.size (w.heap.size + 1) va vc _ hB ho.1 (by omega) hz ta tc R[k] (HR.out _ (List.getElem_mem hlt)) (H6.out _ (List.getElem_mem hlt)) (by rw [hLk]; exact hTA) hun (by omega))
      rw [← st1] at hA
      have hq1 : R[k].1 = L[k].ts := by rw [hLk]
      have hq2 : R[k].2 = L[k].k := by rw [hLk]
      rw [hq1, hq2] at hA
      clear hB hkc HB HO HW ho how how2 hTm0 hTA hun hL1 hL2 hLk st1 st2 hq1 hq2 htv HL1 HL2 HL3
      subst hpa
      generalize L[k].ts.length = TL at *
      generalize L[k].k = KV at *
      go_wp2_with fail
      refine hA.out.mono ?_
      rintro e w3 ⟨rfl, hk3, va3, vc3, hB3⟩
      have B3 := hid hB3
      have K3 := hid (HK.out.trans hk3)
      clear hA hk3 hB3
      go_wp2_with fail
      go_roundw
      case rel => exact ⟨k, by omega, by go_num, K3.out, va3, vc3, B3.out⟩
      case measure => simp [intOf]
end Go.Proofs.YtpamlgdopmjooaaGreat
/- Compile: what it answers. -/
namespace Go.Proofs.YtpamlgdopmjooaaGreat
open Go.RowKit
set_option linter.unusedVariables false
set_option linter.unusedSimpArgs false

/-- the error of Compile, and its answer -/
def cmpErr (pol passes : ByteArray) : Int := if (Sv.check pol).1 = 0 then (if 12 < passes.size then 10 else 0) else (Sv.check pol).1
def cmpOut (pol passes : ByteArray) : ByteArray := if (Sv.check pol).1 = 0 then Sc.impOut (bytesOf (compL pol)) passes else ByteArray.empty
theorem check_zero {t : ByteArray} (h : (Sv.check t).1 = 0) : t.size ≤ 600 ∧ (Sv.policy t ⟨0, false⟩).2.f = false := by
  unfold Sv.check at h
  split at h
  · exact absurd h (by decide)
  · split at h
    · simp at h
    · next q1 q2 => exact ⟨by omega, by simpa using q2⟩
theorem compL_sound {t : ByteArray} (h : (Sv.check t).1 = 0) : SoundList (compL t) := (compL_ok t (check_zero h).1 (check_zero h).2).1
theorem comp_impErr {t : ByteArray} (p : ByteArray) (h : (Sv.check t).1 = 0) : Sc.impErr (bytesOf (compL t)) p = cmpErr t p := by
  unfold Sc.impErr cmpErr
  rw [(compL_sound h).sound, if_pos rfl, if_pos h]

set_option maxRecDepth 100000 in
set_option maxHeartbeats 4000000 in
theorem cCompile_any (w : World) (t p : ByteArray) (ht : t.size ≤ maxLen) (hp : p.size ≤ maxLen) :
    Calls Tryz.prog 56 #[.string t, .string p] w fun e w' => e = .returned (.tuple #[.string (cmpOut t p), .int .i64 (cmpErr t p)]) ∧ w.grownBy w' none := by
  by_cases hl : 600 < t.size
  · have hc : Sv.check t = (1, 0) := by unfold Sv.check; rw [if_pos hl]
    have hE : Hid (cmpErr t p = 1) := by unfold Hid cmpErr; rw [hc]; rfl
    have hO : Hid (cmpOut t p = ByteArray.empty) := by unfold Hid cmpOut; rw [hc]; rfl
    have hP := hid (parse_long w t ht hl)
    clear hl hc
    go_enter Tryz.func56, Tryz.ntmps56
    go_wp2_with fail
    refine hP.out.mono ?_
    rintro e w1 ⟨rfl, hg⟩
    have G1 := hid hg
    clear hP hg
    go_wp2_with fail
    go_ret2
    rw [hE.out, hO.out]
    exact ⟨rfl, gb_alloc G1.out _⟩
  · have hs : t.size ≤ 600 := by omega
    by_cases hf : (Sv.policy t ⟨0, false⟩).2.f = true
    · have hc : Sv.check t = (2, ((Sv.policy t ⟨0, false⟩).2.p : Int)) := by unfold Sv.check; rw [if_neg hl, if_pos hf]
      have hE : Hid (cmpErr t p = 2) := by unfold Hid cmpErr; rw [hc]; rfl
      have hO : Hid (cmpOut t p = ByteArray.empty) := by unfold Hid cmpOut; rw [hc]; rfl
      have hP := hid (parse_form w t hs hf)
      generalize ((Sv.policy t ⟨0, false⟩).2.p : Int) = PP at *
      clear hl hc hf
      go_enter Tryz.func56, Tryz.ntmps56
      go_wp2_with fail
      refine hP.out.mono ?_
      rintro e w1 ⟨rfl, hg⟩
      have G1 := hid hg
      clear hP hg
      go_wp2_with fail
      go_ret2
      rw [hE.out, hO.out]
      exact ⟨rfl, gb_alloc G1.out _⟩
    · have hf' : (Sv.policy t ⟨0, false⟩).2.f = false := by simpa using hf
      have hc : (Sv.check t).1 = 0 := by unfold Sv.check; rw [if_neg hl, if_neg hf]
      have hE := hid (comp_impErr p hc)
      have hO : Hid (Sc.impOut (bytesOf (compL t)) p = cmpOut t p) := by unfold Hid cmpOut; rw [if_pos hc]
      have hP := hid (parse_ok w t hs hf')
      obtain ⟨p1, p2, p3⟩ := policy_c t hf'
      have hR6 := rules_ok t (t.size + 1) ⟨0, false⟩ (Nat.zero_le _)
      have hR7 : ∀ q ∈ (Sv.policy t ⟨0, false⟩).1.1, q.1.length ≤ 601 := fun q hq => by have := (hR6.1 q hq).1; omega
      have hR8 : (Sv.policy t ⟨0, false⟩).1.1.length ≤ 601 := by have := hR6.2; exact Nat.le_trans this (by omega)
      have hI := hid (fun w' pa pc b0 h => cInstr_any w' pa pc (Sv.policy t ⟨0, false⟩).1.1 (Sv.policy t ⟨0, false⟩).1.2 b0 h p1 hR7 hR8 p2 (by omega))
      have hcl : Sc.cRules (Sv.policy t ⟨0, false⟩).1.2 (Sv.policy t ⟨0, false⟩).1.1 = compL t := rfl
      rw [hcl] at hI
      have hSd := compL_sound hc
      have HS := hid hSd
      have h1024 := hSd.1.1
      have hIm := hid (fun w' => iImprove_any w' (bytesOf (compL t)) p (by rw [bytesOf_size]; unfold maxLen; omega) hp)
      rw [hE.out, hO.out] at hIm
      generalize Sv.policy t ⟨0, false⟩ = X at *
      obtain ⟨⟨R, d⟩, s1⟩ := X
      simp only at hP hI
      generalize cmpOut t p = OO at *
      generalize cmpErr t p = EE at *
      generalize compL t = CL at *
      clear hl hc hf hf' p1 p2 p3 hR6 hR7 hR8 hcl hSd hE hO
      go_enter Tryz.func56, Tryz.ntmps56
      go_wp2_with fail
      refine hP.out.mono ?_
      rintro e w1 ⟨pa, pc, rfl, hg1, hpol⟩
      have G1 := hid (gb_alloc hg1 (.cells #[.slice pa R.length pc, .int .i64 d] 76))
      have hI' := hid (hI.out _ pa pc _ (hpol.alloc (.cells #[.slice pa R.length pc, .int .i64 d] 76)))
      clear hP hg1 hpol hI
      go_wp2_with fail
      refine hI'.out.mono ?_
      rintro e w2 ⟨v, rfl, hg2, ho2⟩
      obtain ⟨sa, sc, rfl⟩ := owns_slice ho2
      have G2 := hid (gb_trans G1.out hg2)
      have hEn := hid (mEncode_any w2 sa sc CL (InsAt.of_own rfl ho2) (by unfold maxLen; omega))
      rw [HS.out.1.encB, HS.out.1.encE] at hEn
      clear hI' hg2 ho2 G1
      go_wp2_with fail
      refine hEn.out.mono ?_
      rintro e w3 ⟨rfl, hg3⟩
      have G3 := hid (gb_trans G2.out hg3)
      clear hEn hg3 G2
      go_wp2_with fail
      refine (hIm.out _).mono ?_
      rintro e w4 ⟨rfl, hg4⟩
      have G4 := hid (gb_trans G3.out hg4)
      clear hIm hg4 G3
      go_wp2_with fail
      go_ret2
      exact ⟨rfl, G4.out⟩
set_option maxRecDepth 100000 in
set_option maxHeartbeats 4000000 in
theorem compile_any (w : World) (t p : ByteArray) (ht : t.size ≤ maxLen) (hp : p.size ≤ maxLen) :
    Calls Tryz.prog 39 #[.string t, .string p] w fun e w' => e = .returned (.tuple #[.string (cmpOut t p), .int .i64 (cmpErr t p)]) ∧ w.grownBy w' none := by
  have hI := hid (cCompile_any w t p ht hp)
  generalize cmpOut t p = O at *
  generalize cmpErr t p = E at *
  go_enter Tryz.func39, Tryz.ntmps39
  go_wp2_with fail
  refine hI.out.mono ?_
  rintro e w1 ⟨rfl, hg1⟩
  have G1 := hid hg1
  clear hI hg1
  go_wp2_with fail
  go_ret2
  exact ⟨rfl, G1.out⟩
/-- what Compile answers without an error -/
theorem cmpOut_ok (t p : ByteArray) (h : cmpErr t p = 0) : (Sv.check t).1 = 0 ∧ p.size ≤ 12 ∧ cmpOut t p = Sc.impOut (bytesOf (compL t)) p ∧ Sc.impErr (bytesOf (compL t)) p = 0 := by
  unfold cmpErr at h
  by_cases q : (Sv.check t).1 = 0
  · rw [if_pos q] at h
    have hp : p.size ≤ 12 := by split at h <;> omega
    refine ⟨q, hp, by unfold cmpOut; rw [if_pos q], ?_⟩
    rw [comp_impErr p q]
    unfold cmpErr
    rw [if_pos q, if_neg (by omega)]
  · rw [if_neg q] at h
    exact absurd h q
theorem impL_empty (L : List Sc.In) : Sc.impL ⟨#[]⟩ L = L := rfl
theorem cmpOut_plain (t : ByteArray) (h : (Sv.check t).1 = 0) : cmpOut t ⟨#[]⟩ = bytesOf (compL t) := by
  unfold cmpOut
  rw [if_pos h]
  have e : Sc.impErr (bytesOf (compL t)) ⟨#[]⟩ = 0 := by
    rw [comp_impErr _ h]; unfold cmpErr; rw [if_pos h, if_neg]; show ¬ 12 < 0; omega
  unfold Sc.impOut
  rw [if_pos e, impL_empty, (compL_sound h).1.decL]
end Go.Proofs.YtpamlgdopmjooaaGreat
