/- Whether a code is sound: the program's walks. -/
import Derived.Test.YtldongbimhngfaaMd1
import Derived.Test.YtldongbimhngfaaMd2
namespace Go.Proofs.Ytldongbimhngfaa
open Go.RowKit
set_option linter.unusedVariables false
set_option linter.unusedSimpArgs false

set_option maxRecDepth 100000 in
set_option maxHeartbeats 2000000 in
theorem mFault_any (w : World) (x : Sc.In) (left : Int) (hx : InRng x) :
    Calls Try.prog 62 #[.agg (inCells x), .int .i64 left] w fun e w' => e = .returned (.int .i64 (Sc.wrongE x left)) ∧ w.grownBy w' none := by
  rw [← faultE_eq x left hx]
  have hU := fun w => mUnused_any w x
  have hS := fun w => mStand_any w x hx.2.2.2.2.2.2.1
  have hL := fun w => mLeads_any w x left
  have hdef : Hid (faultE x left = if x.op < 1 ∨ 16 < x.op then 4 else if unusedB x = false then 5 else if standB x = false then 6 else if leadsB x left = false then 7 else 0) := rfl
  generalize faultE x left = E at *
  generalize unusedB x = ub at *
  generalize standB x = sb at *
  generalize leadsB x left = lb at *
  obtain ⟨op, t, f, k⟩ := x
  simp only [inCells] at *
  clear hx
  by_cases h1 : op < 1
  · have hv : Hid (E = 4) := by unfold Hid; rw [hdef.out, if_pos (Or.inl h1)]
    clear hU hS hL hdef
    go_enter Try.func62, Try.ntmps62
    go_wp2_with fail
    go_ret
    rw [hv.out]
    exact ⟨rfl, gb_alloc (gb_refl _ _) _⟩
  by_cases h2 : 16 < op
  · have hv : Hid (E = 4) := by unfold Hid; rw [hdef.out, if_pos (Or.inr h2)]
    clear hU hS hL hdef
    have d1 : decide (op < 1) = false := by simp; omega
    have d2 : decide (16 < op) = true := by simp [h2]
    go_enter Try.func62, Try.ntmps62
    go_wp2_with fail
    go_ret
    rw [hv.out]
    exact ⟨rfl, gb_alloc (gb_refl _ _) _⟩
  have hdef2 : Hid (E = if ub = false then 5 else if sb = false then 6 else if lb = false then 7 else 0) := by unfold Hid; rw [hdef.out, if_neg (by omega)]
  clear hdef
  have d1 : decide (op < 1) = false := by simp; omega
  have d2 : decide (16 < op) = false := by simp; omega
  clear h1 h2
  have mk := fun w1 (hg : (w.alloc (.cells #[.int .i64 op, .int .i64 t, .int .i64 f, .int .i64 k] 46)).grownBy w1 none) => (Blk.new w 46 #[.int .i64 op, .int .i64 t, .int .i64 f, .int .i64 k]).keep hg (by simp)
  have MK := hid mk
  clear mk
  cases ub
  · have hv : Hid (E = 5) := by unfold Hid; rw [hdef2.out, if_pos rfl]
    clear hS hL hdef2
    go_enter Try.func62, Try.ntmps62
    go_wp2_with fail
    refine (hU _).mono ?_
    rintro e w1 ⟨rfl, hg1⟩
    clear hU
    go_wp2_with fail
    go_ret
    rw [hv.out]
    exact ⟨rfl, gb_unalloc hg1⟩
  · cases sb
    · have hv : Hid (E = 6) := by unfold Hid; rw [hdef2.out, if_neg (by simp), if_pos rfl]
      clear hL hdef2
      go_enter Try.func62, Try.ntmps62
      go_wp2_with fail
      refine (hU _).mono ?_
      rintro e w1 ⟨rfl, hg1⟩
      clear hU
      have B0 := MK.out w1 hg1
      have b0 := B0.cell 0
      have b1 := B0.cell 1
      have b2 := B0.cell 2
      have b3 := B0.cell 3
      simp at b0 b1 b2 b3
      go_wp2_with fail
      refine (hS _).mono ?_
      rintro e w2 ⟨rfl, hg2⟩
      clear hS
      go_wp2_with fail
      go_ret
      rw [hv.out]
      exact ⟨rfl, gb_trans (gb_unalloc hg1) hg2⟩
    · have hv : Hid (E = if lb = false then 7 else 0) := by unfold Hid; rw [hdef2.out, if_neg (by simp), if_neg (by simp)]
      clear hdef2
      go_enter Try.func62, Try.ntmps62
      go_wp2_with fail
      refine (hU _).mono ?_
      rintro e w1 ⟨rfl, hg1⟩
      clear hU
      have B0 := MK.out w1 hg1
      have b0 := B0.cell 0
      have b1 := B0.cell 1
      have b2 := B0.cell 2
      have b3 := B0.cell 3
      simp at b0 b1 b2 b3
      go_wp2_with fail
      refine (hS _).mono ?_
      rintro e w2 ⟨rfl, hg2⟩
      clear hS b0 b1 b2 b3
      have B1 := B0.keep hg2 (by simp)
      have b0 := B1.cell 0
      have b1 := B1.cell 1
      have b2 := B1.cell 2
      have b3 := B1.cell 3
      simp at b0 b1 b2 b3
      go_wp2_with fail
      refine (hL _).mono ?_
      rintro e w3 ⟨rfl, hg3⟩
      clear hL
      cases lb
      · have hv' : Hid (E = 7) := by unfold Hid; rw [hv.out, if_pos rfl]
        go_wp2_with fail
        go_ret
        rw [hv'.out]
        exact ⟨rfl, gb_trans (gb_trans (gb_unalloc hg1) hg2) hg3⟩
      · have hv' : Hid (E = 0) := by unfold Hid; rw [hv.out, if_neg (by simp)]
        go_wp2_with fail
        go_ret
        rw [hv'.out]
        exact ⟨rfl, gb_trans (gb_trans (gb_unalloc hg1) hg2) hg3⟩

theorem inAt_rng (c : ByteArray) (i : Nat) (h : 5 * i + 4 < c.size) : InRng (Sc.inAt c i) := by
  have h0 := byte_rng (c := c) (i := 5 * i) (by omega)
  have h1 := byte_rng (c := c) (i := 5 * i + 1) (by omega)
  have h2 := byte_rng (c := c) (i := 5 * i + 2) (by omega)
  have h3 := byte_rng (c := c) (i := 5 * i + 3) (by omega)
  have h4 := byte_rng (c := c) (i := 5 * i + 4) (by omega)
  unfold InRng Sc.inAt
  simp only
  omega
theorem decL_rng (c : ByteArray) : ∀ i (h : i < (Sc.decL c).length), InRng (Sc.decL c)[i] := by
  intro i h
  rcases decE_cases c with ⟨h0, h1, h2⟩ | ⟨h0, h1⟩
  · have hl := decL_len h0
    have e : Sc.decL c = Sc.ins c (c.size / 5) := by unfold Sc.decL; rw [if_pos h0]
    have e2 : (Sc.decL c)[i] = Sc.inAt c i := by
      have := ins_get c (c.size / 5) i (by rw [← e]; exact h)
      rw [← this]
      congr 1
    rw [e2]
    exact inAt_rng c i (by omega)
  · rw [h1] at h; simp at h
theorem decL_le (c : ByteArray) : (Sc.decL c).length ≤ 1024 := by
  rcases decE_cases c with ⟨h0, h1, h2⟩ | ⟨h0, h1⟩
  · rw [decL_len h0]; omega
  · rw [h1]; simp
theorem lastOp_get (l : List Sc.In) (h : 0 < l.length) : Sc.lastOp l = (l[l.length - 1]'(by omega)).op := by
  induction l with
  | nil => simp at h
  | cons x r ih =>
    cases r with
    | nil => rfl
    | cons y r =>
      have := ih (by simp)
      simp only [Sc.lastOp]
      rw [this]
      simp
/-- the instructions that Read answers -/
def readL (c : ByteArray) : List Sc.In := if (Sc.sound c).1 = 0 then Sc.decL c else []
theorem owns_in {w : World} {base : Nat} {sa : Option Addr} {n sc : Nat} {l : List Sc.In} (hn : n = l.length) (h : w.ownsRow base 46 4 (.slice sa n sc) n (insCells l)) (k : Nat) (hk : k < l.length) :
    ∃ g, sa = some ⟨g, 0, none⟩ ∧ base ≤ g ∧ g < w.heap.size ∧ ∀ j, j < 4 → w.cell? ⟨g, k * 4 + j, none⟩ = (inCells l[k])[j]? := by
  rcases h.2 with ⟨h1, h2⟩ | ⟨g, cap, cur, h1, h2, h3, h4, h5, h6, h7⟩
  · omega
  · simp only [Value.slice.injEq] at h1
    refine ⟨g, h1.1, h2, (Array.getElem?_eq_some_iff.1 h3).1, fun j hj => ?_⟩
    have e1 : w.cell? ⟨g, k * 4 + j, none⟩ = cur[k * 4 + j]? := by simp [World.cell?, h3]
    have e2 : (cur.toList.take (n * 4))[k * 4 + j]? = cur.toList[k * 4 + j]? := List.getElem?_take_of_lt (by omega)
    rw [e1, ← insCells_at l k j hk hj, ← h7, e2]
    simp
theorem kept_none {w w' : World} {base : Nat} {e : TypeId} {size : Nat} {v : Value} {n : Nat} {xs : List Value} (h : w.ownsRow base e size v n xs) (hg : w.grownBy w' none) : w'.ownsRow base e size v n xs :=
  h.kept hg (by cases v.ownBlock <;> simp)

set_option maxRecDepth 100000 in
set_option maxHeartbeats 2000000 in
theorem mRead_any (w : World) (c : ByteArray) (hc : c.size ≤ maxLen) :
    Calls Try.prog 54 #[.string c] w fun e w' => ∃ sa, e = .returned (.tuple #[.slice sa (readL c).length (readL c).length, .int .i64 (Sc.sound c).1, .int .i64 (Sc.sound c).2]) ∧ w.grownBy w' none ∧
      w'.ownsRow w.heap.size 46 4 (.slice sa (readL c).length (readL c).length) (readL c).length (insCells (readL c)) := by
  have hD := mDecode_any w c hc
  by_cases hE : Sc.decE c = 0
  · rw [hE] at hD
    have hs0 : Hid (Sc.sound c = Sc.soundL (Sc.decL c)) := by unfold Hid Sc.sound; rw [if_pos hE]
    have hr0 : Hid (readL c = if (Sc.soundL (Sc.decL c)).1 = 0 then Sc.decL c else []) := by unfold Hid readL; rw [hs0.out]
    have hle := decL_le c
    have hrng := hid (decL_rng c)
    generalize Sc.decL c = L at *
    clear hE hc
    by_cases hz : L.length = 0
    · have hL : L = [] := List.eq_nil_of_length_eq_zero hz
      subst hL
      have hv : Hid (Sc.soundL [] = (3, 0)) := by unfold Hid Sc.soundL; rw [if_pos (by rfl)]
      go_enter Try.func54, Try.ntmps54
      go_wp2_with fail
      refine hD.mono ?_
      rintro e w1 ⟨sa, rfl, hg1, ho1⟩
      clear hD ho1
      go_wp2_with fail
      refine bodyPost_ret (v := .tuple #[.slice none 0 0, .int .i64 3, .int .i64 0]) (by simp [results, Try.results54, go_sem]) rfl ?_
      rw [hr0.out, hs0.out, hv.out]
      exact ⟨none, rfl, hg1, World.ownsRow_nil _ _ _ _⟩
    · have hv : Hid (Sc.soundL L = if (Sc.soundN L 0 L).1 = 0 then (if Sc.lastOp L = 15 ∨ Sc.lastOp L = 16 then (0, 0) else (8, (L.length : Int) - 1)) else Sc.soundN L 0 L) := by
        unfold Hid Sc.soundL; rw [if_neg hz]
      have hpos : 0 < L.length := by omega
      have hz' : ((L.length : Int) == 0) = false := by rw [beq_eq_false_iff_ne]; omega
      have hla := lastOp_get L hpos
      have HLA := hid hla
      clear hla
      go_enter Try.func54, Try.ntmps54
      go_wp2_with fail
      refine hD.mono ?_
      rintro e w1 ⟨sa, rfl, hg1, ho1⟩
      have Hg1 := hid hg1
      have Ho1 := hid ho1
      clear hD ho1 hg1
      go_wp2_with fail
      go_loopw [6, 7] (fun e i wr => ∃ (k : Nat), k ≤ L.length ∧ i = .int .i64 k ∧ e = .int .i64 0 ∧ w1.grownBy wr none ∧ Hid (Sc.soundN L k (L.drop k) = Sc.soundN L 0 L)) (fun _ i _ => L.length - (intOf i).toNat)
      case atStart => exact ⟨0, Nat.zero_le _, rfl, rfl, gb_refl _ _, rfl⟩
      case round =>
        obtain ⟨k, hk, rfl, rfl, hg, hS⟩ := hrel
        have Hg := hid hg
        have hown := kept_none Ho1.out hg
        clear hg
        by_cases hlt : k < L.length
        · have hdr : Hid (L.drop k = L[k] :: L.drop (k + 1)) := by unfold Hid; rw [List.drop_eq_getElem_cons hlt]
          obtain ⟨g, rfl, hgb, hgl, hcell⟩ := owns_in rfl hown k hlt
          have hF := hid (fun w => mFault_any w L[k] (((L.length - (k + 1) : Nat)) : Int) (hrng.out k hlt))
          have hlen : (L.drop (k + 1)).length = L.length - (k + 1) := by simp
          have hst : Hid (Sc.soundN L k (L.drop k) = if Sc.wrongE L[k] ((L.length - (k + 1) : Nat) : Int) = 0 then Sc.soundN L (k + 1) (L.drop (k + 1)) else (Sc.wrongE L[k] ((L.length - (k + 1) : Nat) : Int), (k : Int))) := by
            unfold Hid; rw [hdr.out]; simp only [Sc.soundN]; rw [hlen]
          have hsub : (L.length : Int) - (k : Int) - 1 = ((L.length - (k + 1) : Nat) : Int) := by omega
          rw [← hsub] at hF hst
          have t0 := hcell 0 (by omega)
          have t1 := hcell 1 (by omega)
          have t2 := hcell 2 (by omega)
          have t3 := hcell 3 (by omega)
          have hX : ∃ X, X = L[k] := ⟨_, rfl⟩
          obtain ⟨X, hX⟩ := hX
          rw [← hX] at hF hst t0 t1 t2 t3
          have HX := hid hX
          clear hX hcell hsub hlen hown hdr
          generalize Sc.wrongE X ((L.length : Int) - (k : Int) - 1) = W at *
          obtain ⟨op, t, f, kk⟩ := X
          simp [inCells] at t0 t1 t2 t3
          simp only [inCells] at hF
          go_wp2_with fail
          refine (hF.out _).mono ?_
          rintro e w2 ⟨rfl, hg2⟩
          have Hg2 := hid hg2
          clear hF hg2
          by_cases hW : W = 0
          · subst hW
            have hS2 : Hid (Sc.soundN L (k + 1) (L.drop (k + 1)) = Sc.soundN L 0 L) := by
              unfold Hid at *; rw [← hS, hst, if_pos rfl]
            clear hst hS
            go_wp2_with fail
            go_roundw
            case rel => exact ⟨k + 1, by omega, by go_num, rfl, gb_trans Hg.out Hg2.out, hS2⟩
            case measure => simp [intOf]; omega
          · have hS2 : Hid (Sc.soundN L 0 L = (W, (k : Int))) := by
              unfold Hid at *; rw [← hS, hst, if_neg hW]
            have hv2 : Hid (Sc.soundL L = (W, (k : Int))) := by
              unfold Hid; rw [hv.out, hS2.out, if_neg hW]
            have HW := hid hW
            have e1 : (W != 0) = true := by simp [hW]
            clear hst hS hW hS2 hv
            go_wp2_with fail
            refine bodyPost_ret (v := .tuple #[.slice none 0 0, .int .i64 W, .int .i64 k]) (by simp [results, Try.results54, go_sem]) rfl ?_
            rw [hr0.out, hs0.out, hv2.out, if_neg (show ¬ ((W, (k : Int)).1 = 0) from HW.out)]
            exact ⟨none, rfl, gb_trans (gb_trans Hg1.out Hg.out) Hg2.out, World.ownsRow_nil _ _ _ _⟩
        · have hkn : k = L.length := by omega
          subst hkn
          have hS2 : Hid (Sc.soundN L 0 L = (0, 0)) := by
            unfold Hid at *; rw [← hS]; simp [Sc.soundN]
          have hv2 : Hid (Sc.soundL L = if Sc.lastOp L = 15 ∨ Sc.lastOp L = 16 then (0, 0) else (8, (L.length : Int) - 1)) := by
            unfold Hid; rw [hv.out, hS2.out, if_pos rfl]
          clear hS hS2 hv
          obtain ⟨g, rfl, hgb, hgl, hcell⟩ := owns_in rfl hown (L.length - 1) (by omega)
          have t0 := hcell 0 (by omega)
          have hop : Hid (Sc.lastOp L = (L[L.length - 1]'(by omega)).op) := HLA
          have Ho := hid hown
          have Hlt := hid hlt
          clear hcell hown HLA hlt
          generalize (L[L.length - 1]'(by omega)) = X at *
          obtain ⟨op, t, f, kk⟩ := X
          simp [inCells] at t0
          have hI := fun w => mIsEnd_any w op
          have q1 : ((L.length : Int) - 1).toNat = L.length - 1 := by omega
          have q2 : (0 : Int) ≤ (L.length : Int) - 1 := by omega
          have q3 : (L.length : Int) - 1 < (L.length : Int) := by omega
          by_cases hend : op = 15 ∨ op = 16
          · have hv3 : Hid (Sc.soundL L = (0, 0)) := by
              unfold Hid; rw [hv2.out, hop.out, if_pos hend]
            simp only [hend, decide_true] at hI
            clear hend hv2 hop
            go_wp2_with fail
            refine (hI _).mono ?_
            rintro e w2 ⟨rfl, rfl⟩
            clear hI
            go_wp2_with fail
            refine bodyPost_ret (v := .tuple #[.slice (some ⟨g, 0, none⟩) L.length L.length, .int .i64 0, .int .i64 0]) (by simp [results, Try.results54, go_sem]) rfl ?_
            rw [hr0.out, hs0.out, hv3.out, if_pos (show ((0 : Int), (0 : Int)).1 = 0 from rfl)]
            exact ⟨_, rfl, gb_trans Hg1.out Hg.out, Ho.out⟩
          · have hv3 : Hid (Sc.soundL L = (8, (L.length : Int) - 1)) := by
              unfold Hid; rw [hv2.out, hop.out, if_neg hend]
            simp only [hend, decide_false] at hI
            clear hend hv2 hop
            go_wp2_with fail
            refine (hI _).mono ?_
            rintro e w2 ⟨rfl, rfl⟩
            clear hI
            go_wp2_with fail
            refine bodyPost_ret (v := .tuple #[.slice none 0 0, .int .i64 8, .int .i64 ((L.length : Int) - 1)]) (by simp [results, Try.results54, go_sem]) rfl ?_
            rw [hr0.out, hs0.out, hv3.out, if_neg (show ¬ (((8 : Int), (L.length : Int) - 1).1 = 0) by show ¬ ((8 : Int) = 0); decide)]
            exact ⟨none, rfl, gb_trans Hg1.out Hg.out, World.ownsRow_nil _ _ _ _⟩
  · have hv : Hid (Sc.sound c = (Sc.decE c, 0)) := by unfold Hid Sc.sound; rw [if_neg hE]
    have hr : Hid (readL c = []) := by unfold Hid readL; rw [hv.out, if_neg hE]
    have e1 : (Sc.decE c != 0) = true := by simp [hE]
    rw [hv.out, hr.out]
    clear hE
    go_enter Try.func54, Try.ntmps54
    go_wp2_with fail
    refine hD.mono ?_
    rintro e w1 ⟨sa, rfl, hg1, ho1⟩
    clear hD ho1
    go_wp2_with fail
    refine bodyPost_ret (v := .tuple #[.slice none 0 0, .int .i64 (Sc.decE c), .int .i64 0]) (by simp [results, Try.results54, go_sem]) rfl ?_
    exact ⟨none, rfl, hg1, World.ownsRow_nil _ _ _ _⟩

set_option maxHeartbeats 1000000 in
theorem mSound_any (w : World) (c : ByteArray) (hc : c.size ≤ maxLen) :
    Calls Try.prog 42 #[.string c] w fun e w' => e = .returned (.tuple #[.int .i64 (Sc.sound c).1, .int .i64 (Sc.sound c).2]) ∧ w.grownBy w' none := by
  have hR := mRead_any w c hc
  generalize Sc.sound c = X at *
  obtain ⟨a, b⟩ := X
  go_enter Try.func42, Try.ntmps42
  go_wp2_with fail
  refine hR.mono ?_
  rintro e w1 ⟨sa, rfl, hg1, ho1⟩
  clear hR ho1
  go_wp2_with fail
  go_ret2
  exact ⟨rfl, hg1⟩

set_option maxHeartbeats 1000000 in
theorem sound_any (w : World) (c : ByteArray) (hc : c.size ≤ maxLen) :
    Calls Try.prog 28 #[.string c] w fun e w' => e = .returned (.tuple #[.int .i64 (Sc.sound c).1, .int .i64 (Sc.sound c).2]) ∧ w.grownBy w' none := by
  have hR := mSound_any w c hc
  generalize Sc.sound c = X at *
  obtain ⟨a, b⟩ := X
  go_enter Try.func28, Try.ntmps28
  go_wp2_with fail
  refine hR.mono ?_
  rintro e w1 ⟨rfl, hg1⟩
  clear hR
  go_wp2_with fail
  go_ret2
  exact ⟨rfl, hg1⟩
/-- a list of instructions as it lies -/
def InsAt (w : World) (sa : Option Addr) (l : List Sc.In) : Prop :=
  ∀ i (hi : i < l.length), ∃ b off, sa = some ⟨b, off, none⟩ ∧ b < w.heap.size ∧ ∀ j, j < 4 → w.cell? ⟨b, off + i * 4 + j, none⟩ = (inCells l[i])[j]?
theorem InsAt.keep {w w' : World} {sa : Option Addr} {l : List Sc.In} (h : InsAt w sa l) (hg : w.grownBy w' none) : InsAt w' sa l := by
  intro i hi
  obtain ⟨b, off, h1, h2, h3⟩ := h i hi
  exact ⟨b, off, h1, Nat.lt_of_lt_of_le h2 hg.size, fun j hj => (World.cell?_of_block (a := ⟨b, off + i * 4 + j, none⟩) (hg.block b h2 (by simp))).trans (h3 j hj)⟩
theorem InsAt.of_own {w : World} {base : Nat} {sa : Option Addr} {n sc : Nat} {l : List Sc.In} (hn : n = l.length) (h : w.ownsRow base 46 4 (.slice sa n sc) n (insCells l)) : InsAt w sa l := by
  intro i hi
  obtain ⟨g, h1, h2, h3, h4⟩ := owns_in hn h i hi
  exact ⟨g, 0, h1, h3, fun j hj => by rw [Nat.zero_add]; exact h4 j hj⟩

end Go.Proofs.Ytldongbimhngfaa
