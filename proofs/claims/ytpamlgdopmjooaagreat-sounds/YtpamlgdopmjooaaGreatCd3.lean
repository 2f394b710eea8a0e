/- Whether a code is sound: the document's walk; the statement Sounds. -/
import Derived.Test.YtpamlgdopmjooaaGreatCd1
import Derived.Test.YtpamlgdopmjooaaGreatCd2
import Derived.Test.YtpamlgdopmjooaaGreatGLw
namespace Go.Proofs.YtpamlgdopmjooaaGreat
open Go.RowKit
set_option linter.unusedVariables false
set_option linter.unusedSimpArgs false

set_option maxRecDepth 100000 in
set_option maxHeartbeats 2000000 in
theorem refSound_any (w : World) (c : ByteArray) (hc : c.size ≤ maxLen) :
    Calls Tryz.prog 25 #[.string c] w fun e w' => e = .returned (.tuple #[.int .i64 (Sc.sound c).1, .int .i64 (Sc.sound c).2]) ∧ w.grownBy w' none := by
  have hD := refDecode_any w c hc
  by_cases hE : Sc.decE c = 0
  · rw [hE] at hD
    have hs0 : Hid (Sc.sound c = Sc.soundL (Sc.decL c)) := by unfold Hid Sc.sound; rw [if_pos hE]
    have hle := decL_le c
    have hrng := hid (decL_rng c)
    generalize Sc.decL c = L at *
    clear hE hc
    by_cases hz : L.length = 0
    · have hL : L = [] := List.eq_nil_of_length_eq_zero hz
      subst hL
      have hv : Hid (Sc.soundL [] = (3, 0)) := by unfold Hid Sc.soundL; rw [if_pos (by rfl)]
      go_enter Tryz.func25, Tryz.ntmps25
      go_wp2_with fail
      refine hD.mono ?_
      rintro e w1 ⟨v, rfl, hg1, ho1⟩
      obtain ⟨sa, sc, rfl⟩ := owns_slice ho1
      clear hD ho1
      go_wp2_with fail
      go_ret2
      rw [hs0.out, hv.out]
      exact ⟨rfl, hg1⟩
    · have hv : Hid (Sc.soundL L = if (Sc.soundN L 0 L).1 = 0 then (if Sc.lastOp L = 15 ∨ Sc.lastOp L = 16 then (0, 0) else (8, (L.length : Int) - 1)) else Sc.soundN L 0 L) := by
        unfold Hid Sc.soundL; rw [if_neg hz]
      have hpos : 0 < L.length := by omega
      have hz' : ((L.length : Int) == 0) = false := by rw [beq_eq_false_iff_ne]; omega
      have hla := lastOp_get L hpos
      have HLA := hid hla
      clear hla
      go_enter Tryz.func25, Tryz.ntmps25
      go_wp2_with fail
      refine hD.mono ?_
      rintro e w1 ⟨v, rfl, hg1, ho1⟩
      obtain ⟨sa, sc, rfl⟩ := owns_slice ho1
      have Hg1 := hid hg1
      have Ho1 := hid ho1
      clear hD ho1 hg1
      go_wp2_with fail
      go_loopw [6] (fun i wr => ∃ (k : Nat), k ≤ L.length ∧ i = .int .i64 k ∧ w1.grownBy wr none ∧ Hid (Sc.soundN L k (L.drop k) = Sc.soundN L 0 L)) (fun i _ => L.length - (intOf i).toNat)
      case atStart => exact ⟨0, Nat.zero_le _, rfl, gb_refl _ _, rfl⟩
      case round =>
        obtain ⟨k, hk, rfl, hg, hS⟩ := hrel
        have Hg := hid hg
        have hown := kept_none Ho1.out hg
        clear hg
        by_cases hlt : k < L.length
        · have hdr : Hid (L.drop k = L[k] :: L.drop (k + 1)) := by unfold Hid; rw [List.drop_eq_getElem_cons hlt]
          have hF := hid (rWrong_any wr sa sc L (InsAt.of_own rfl hown) hle k hlt (hrng.out k hlt))
          have hlen : (L.drop (k + 1)).length = L.length - (k + 1) := by simp
          have hst : Hid (Sc.soundN L k (L.drop k) = if Sc.wrongE L[k] ((L.length - (k + 1) : Nat) : Int) = 0 then Sc.soundN L (k + 1) (L.drop (k + 1)) else (Sc.wrongE L[k] ((L.length - (k + 1) : Nat) : Int), (k : Int))) := by
            unfold Hid; rw [hdr.out]; simp only [Sc.soundN]; rw [hlen]
          have hsub : (L.length : Int) - (k : Int) - 1 = ((L.length - (k + 1) : Nat) : Int) := by omega
          rw [← hsub] at hst
          clear hsub hlen hown hdr
          generalize Sc.wrongE L[k] ((L.length : Int) - (k : Int) - 1) = W at *
          go_wp2_with fail
          refine hF.out.mono ?_
          rintro e w2 ⟨rfl, hg2⟩
          have Hg2 := hid hg2
          clear hF hg2
          by_cases hW : W = 0
          · subst hW
            have hS2 : Hid (Sc.soundN L (k + 1) (L.drop (k + 1)) = Sc.soundN L 0 L) := by
              unfold Hid at *; rw [← hS, hst, if_pos rfl]
            clear hst hS
            go_wp2_with fail
            go_roundw
            case rel => exact ⟨k + 1, by omega, by go_num, gb_trans Hg.out Hg2.out, hS2⟩
            case measure => simp [intOf]; omega
          · have hS2 : Hid (Sc.soundN L 0 L = (W, (k : Int))) := by
              unfold Hid at *; rw [← hS, hst, if_neg hW]
            have hv2 : Hid (Sc.soundL L = (W, (k : Int))) := by
              unfold Hid; rw [hv.out, hS2.out, if_neg hW]
            have e1 : (W != 0) = true := by simp [hW]
            clear hst hS hW hS2 hv
            go_wp2_with fail
            go_ret2
            rw [hs0.out, hv2.out]
            exact ⟨rfl, gb_trans (gb_trans Hg1.out Hg.out) Hg2.out⟩
        · have hkn : k = L.length := by omega
          subst hkn
          have hS2 : Hid (Sc.soundN L 0 L = (0, 0)) := by
            unfold Hid at *; rw [← hS]; simp [Sc.soundN]
          have hv2 : Hid (Sc.soundL L = if Sc.lastOp L = 15 ∨ Sc.lastOp L = 16 then (0, 0) else (8, (L.length : Int) - 1)) := by
            unfold Hid; rw [hv.out, hS2.out, if_pos rfl]
          clear hS hS2 hv
          obtain ⟨g, rfl, hgb, hgl, hcell⟩ := owns_in rfl hown (L.length - 1) (by omega)
          have t0 := hcell 0 (by omega)
          have hop : Hid (Sc.lastOp L = (L[L.length - 1]'(by omega)).op) := HLA
          have Hlt := hid hlt
          clear hcell hown HLA hlt
          generalize (L[L.length - 1]'(by omega)) = X at *
          obtain ⟨op, t, f, kk⟩ := X
          simp [inCells] at t0
          have q1 : ((L.length : Int) - 1).toNat = L.length - 1 := by omega
          have q2 : (0 : Int) ≤ (L.length : Int) - 1 := by omega
          have q3 : (L.length : Int) - 1 < (L.length : Int) := by omega
          by_cases h15 : op = 15
          · subst h15
            have hv3 : Hid (Sc.soundL L = (0, 0)) := by unfold Hid; rw [hv2.out, hop.out, if_pos (Or.inl rfl)]
            clear hv2 hop
            go_wp2_with fail
            go_ret2
            rw [hs0.out, hv3.out]
            exact ⟨rfl, gb_trans Hg1.out Hg.out⟩
          · have e15 : (op != 15) = true := by simp [h15]
            by_cases h16 : op = 16
            · subst h16
              have hv3 : Hid (Sc.soundL L = (0, 0)) := by unfold Hid; rw [hv2.out, hop.out, if_pos (Or.inr rfl)]
              clear hv2 hop h15 e15
              go_wp2_with fail
              go_ret2
              rw [hs0.out, hv3.out]
              exact ⟨rfl, gb_trans Hg1.out Hg.out⟩
            · have e16 : (op != 16) = true := by simp [h16]
              have hv3 : Hid (Sc.soundL L = (8, (L.length : Int) - 1)) := by
                unfold Hid; rw [hv2.out, hop.out, if_neg (by simp [h15, h16])]
              clear hv2 hop h15 h16
              go_wp2_with fail
              go_ret2
              rw [hs0.out, hv3.out]
              exact ⟨rfl, gb_trans Hg1.out Hg.out⟩
  · have hv : Hid (Sc.sound c = (Sc.decE c, 0)) := by unfold Hid Sc.sound; rw [if_neg hE]
    have e1 : (Sc.decE c != 0) = true := by simp [hE]
    clear hE
    go_enter Tryz.func25, Tryz.ntmps25
    go_wp2_with fail
    refine hD.mono ?_
    rintro e w1 ⟨sa, rfl, hg1, ho1⟩
    clear hD ho1
    go_wp2_with fail
    go_ret2
    rw [hv.out]
    exact ⟨rfl, hg1⟩

set_option maxRecDepth 100000 in
set_option maxHeartbeats 1000000 in
theorem texts_sound (w : World) (o : Opr) (hk : o.kind = 5) (ho : OprOk o) :
    Calls Tryz.prog 14 #[.agg (opCells o)] w fun e w' => e = .returned (.bool true) ∧ w.grownBy w' none := by
  obtain ⟨kind, n, s, p, r, la, ll, lc⟩ := o
  obtain ⟨h1, h2, h3⟩ := ho
  simp only at hk h1 h2 h3
  subst hk
  simp only [opCells]
  have hC := fun w => sound_any w s h1
  have hR := fun w => refSound_any w s h1
  generalize Sc.sound s = X at *
  obtain ⟨a, b⟩ := X
  simp only at hC hR
  go_enter Tryz.func14, Tryz.ntmps14
  go_wp2_with fail
  refine (hC _).mono ?_
  rintro e w1 ⟨rfl, hg⟩
  have B0 := (Blk.new w 31 #[.int .i64 5, .int .i64 n, .string s, .string p, .string r, .slice la ll lc]).keep hg (by simp)
  have c2 := B0.cell 2
  simp at c2
  clear hC
  go_wp2_with fail
  refine (hR _).mono ?_
  rintro e w2 ⟨rfl, hg2⟩
  clear hR
  go_wp2_with fail
  refine (num_any _ _).mono ?_
  rintro e w3 ⟨rfl, rfl⟩
  go_wp2_with fail
  go_ret
  exact ⟨by simp, gb_trans (gb_unalloc hg) hg2⟩

set_option maxRecDepth 100000 in
set_option maxHeartbeats 1000000 in
theorem plays_sound (w : World) (bb : Nat) (o : Opr) (hk : o.kind = 5) (ho : OprOk o) :
    Calls Tryz.prog 12 #[.pointer (some ⟨bb, 0, none⟩), .agg (opCells o)] w fun e w' => e = .returned (.bool true) ∧ w.grownBy w' none := by
  have hT := fun w => texts_sound w o hk ho
  obtain ⟨kind, n, s, p, r, la, ll, lc⟩ := o
  simp only at hk
  subst hk
  simp only [opCells] at hT ⊢
  go_enter Tryz.func12, Tryz.ntmps12
  go_wp2_with fail
  refine (hT _).mono ?_
  rintro e w1 ⟨rfl, hg⟩
  clear hT
  go_wp2_with fail
  go_ret
  exact ⟨rfl, gb_unalloc hg⟩

set_option maxHeartbeats 1000000 in
theorem sounds_walk (w : World) (sa : Option Addr) (sc : Nat) (ops : List Opr) (hops : OpsAt w sa ops) (hlen : ops.length ≤ maxLen) :
    Calls Tryz.prog 6 #[.slice sa ops.length sc] w fun e w' => e = .returned (.bool true) ∧ Below w.heap.size w w' := by
  have hU := upTo_any w sa sc ops hops hlen 5 5 (fun w bb o h1 h2 ho => plays_sound w bb o (by omega) ho)
  clear hops
  go_enter Tryz.func6, Tryz.ntmps6
  go_wp2_with fail
  refine hU.mono ?_
  rintro e w1 ⟨rfl, hg⟩
  clear hU
  go_wp2_with fail
  go_ret
  exact ⟨rfl, gb_below hg⟩
end Go.Proofs.YtpamlgdopmjooaaGreat
