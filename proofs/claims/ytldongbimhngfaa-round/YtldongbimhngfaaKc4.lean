/- sievekeep: what is made is sound; same, bytes, ran. -/
import Derived.Test.YtldongbimhngfaaKc3
import Derived.Test.YtldongbimhngfaaPl1
namespace Go.Proofs.Ytldongbimhngfaa
open Go.RowKit
set_option linter.unusedVariables false
set_option linter.unusedSimpArgs false

theorem may_true (x : Sc.In) (ht : x.t ≤ 15) (hf : x.f ≤ 15) (h1 : x.op = 1 → x.k % 2 = 0 ∧ x.k ≤ 18) (h3 : x.op = 3 ∨ x.op = 4 → x.k ≤ 3) (h8 : x.op = 8 → 0 < x.k) (h9 : x.op = 9 → x.k ≤ 15) : Sc.mayB x = true := by
  unfold Sc.mayB
  rw [if_neg (by omega)]
  split
  · next q => have := h1 q; simp [this.1, this.2]
  · split
    · next q => simp [h3 q]
    · split
      · next q => simp [h8 q]
      · split
        · next q => simp [h9 q]
        · rfl
theorem wrong_zero (x : Sc.In) (left : Int) (h0 : 1 ≤ x.op) (h1 : x.op ≤ 16) (h2 : ¬ ((Sc.isTest x.op = false ∧ 0 < x.t + x.f) ∨ (x.op = 16 ∧ 0 < x.k))) (h3 : Sc.mayB x = true)
    (h4 : ¬ ((x.op = 10 ∧ left ≤ x.k) ∨ (Sc.isTest x.op = true ∧ (left ≤ x.t ∨ left ≤ x.f)))) : Sc.wrongE x left = 0 := by
  unfold Sc.wrongE
  rw [if_neg (by omega), if_neg h2, if_neg (by simp [h3]), if_neg h4]
theorem mkIn_wrong (ll : Nat) (z : Nat → Int) (n i : Nat) (hi : i < n) (hn : n ≤ 1024) : Sc.wrongE (mkIn ll z n i) ((n - (i + 1) : Nat) : Int) = 0 := by
  have ho := mkOp_rng n i (nzc ll z (4 * i))
  have hti := isTest_iff (mkOp n i (nzc ll z (4 * i)))
  unfold mkIn
  generalize nzc ll z (4 * i + 1) = y1 at *
  generalize nzc ll z (4 * i + 2) = y2 at *
  generalize nzc ll z (4 * i + 3) = y3 at *
  generalize mkOp n i (nzc ll z (4 * i)) = op at *
  have p10 := pk_range y1 10 (by omega)
  have p4 := pk_range y1 4 (by omega)
  have p8 := pk_range y1 65535 (by omega)
  have p16 := pk_range y1 16 (by omega)
  have hm : Sc.isTest op = true → 0 < most16 (n - i - 1) ∧ most16 (n - i - 1) ≤ 16 ∧ most16 (n - i - 1) ≤ ((n - (i + 1) : Nat) : Int) := by
    intro q
    rw [q] at hti
    have : 11 ≤ op ∧ op ≤ 14 := by simpa using hti.symm
    unfold most16; split <;> omega
  have hT : Sc.isTest op = true → 11 ≤ op ∧ op ≤ 14 := by intro q; rw [q] at hti; simpa using hti.symm
  have hK10 : op = 10 → (if op = 10 then pk y1 ((n - i - 1 : Nat) : Int) else opnd op y1) < ((n - (i + 1) : Nat) : Int) := by
    intro q
    have q2 := pk_range y1 ((n - i - 1 : Nat) : Int) (by omega)
    rw [if_pos q]; omega
  have hK1 : op = 1 → (if op = 10 then pk y1 ((n - i - 1 : Nat) : Int) else opnd op y1) = 2 * pk y1 10 := by rintro rfl; rfl
  have hK3 : op = 3 ∨ op = 4 → (if op = 10 then pk y1 ((n - i - 1 : Nat) : Int) else opnd op y1) = pk y1 4 := by rintro (rfl | rfl) <;> rfl
  have hK8 : op = 8 → (if op = 10 then pk y1 ((n - i - 1 : Nat) : Int) else opnd op y1) = 1 + pk y1 65535 := by rintro rfl; rfl
  have hK9 : op = 9 → (if op = 10 then pk y1 ((n - i - 1 : Nat) : Int) else opnd op y1) = pk y1 16 := by rintro rfl; rfl
  have hK16 : op = 16 → (if op = 10 then pk y1 ((n - i - 1 : Nat) : Int) else opnd op y1) = 0 := by rintro rfl; rfl
  generalize (if op = 10 then pk y1 ((n - i - 1 : Nat) : Int) else opnd op y1) = K at *
  have hM : ∀ t f, t ≤ 15 → f ≤ 15 → Sc.mayB ⟨op, t, f, K⟩ = true := fun t f a b =>
    may_true _ a b (fun q => by have := hK1 q; simp only; omega) (fun q => by have := hK3 q; simp only; omega) (fun q => by have := hK8 q; simp only; omega) (fun q => by have := hK9 q; simp only; omega)
  by_cases ht : Sc.isTest op = true
  · have q2 := pk_range y2 _ (hm ht).1
    have q3 := pk_range y3 _ (hm ht).1
    have hm1 := (hm ht).2.1
    have hm2 := (hm ht).2.2
    have hop := hT ht
    rw [if_pos ht, if_pos ht]
    refine wrong_zero _ _ ho.1 ho.2.1 ?_ (hM _ _ (by omega) (by omega)) ?_
    · rintro (⟨q, _⟩ | ⟨q, _⟩)
      · rw [show Sc.isTest op = true from ht] at q; cases q
      · simp only at q; omega
    · rintro (⟨q, _⟩ | ⟨_, q⟩)
      · simp only at q; omega
      · simp only at q; omega
  · have ht' : Sc.isTest op = false := by simpa using ht
    rw [if_neg ht, if_neg ht]
    refine wrong_zero _ _ ho.1 ho.2.1 ?_ (hM _ _ (by omega) (by omega)) ?_
    · rintro (⟨_, q⟩ | ⟨q, q2⟩)
      · simp only at q; omega
      · have := hK16 q; simp only at q2; omega
    · rintro (⟨q, q2⟩ | ⟨q, _⟩)
      · have := hK10 q; simp only at q2; omega
      · exact ht q
theorem codeP_sound (ll : Nat) (z : Nat → Int) (n : Nat) (h1 : 1 ≤ n) (h2 : n ≤ 1024) : SoundList (codeP ll z n n) := by
  have hl := codeP_len ll z n n
  refine ⟨⟨by omega, fun i hi => ?_⟩, by omega, fun i hi => ?_, fun h => ?_⟩
  · rw [codeP_get]; exact mkIn_rng ll z n i (by omega) h2
  · rw [codeP_get, hl]; exact mkIn_wrong ll z n i (by omega) h2
  · have hi : (codeP ll z n n).length - 1 = n - 1 := by omega
    rw [codeP_get]
    have ho := mkOp_rng n ((codeP ll z n n).length - 1) (nzc ll z (4 * ((codeP ll z n n).length - 1)))
    show mkOp n ((codeP ll z n n).length - 1) _ = 15 ∨ mkOp n ((codeP ll z n n).length - 1) _ = 16
    have := ho.2.2 (by omega)
    omega

set_option maxRecDepth 100000 in
set_option maxHeartbeats 2000000 in
theorem kSame_any (w : World) (sa sb : Option Addr) (ca cb : Nat) (L : List Sc.In) (hA : InsAt w sa L) (hB : InsAt w sb L) (hle : L.length ≤ 1024) :
    Calls Try.prog 30 #[.slice sa L.length ca, .slice sb L.length cb] w fun e w' => e = .returned (.bool true) ∧ w.grownBy w' none := by
  have HA := hid hA
  have HB := hid hB
  clear hA hB
  go_enter Try.func30, Try.ntmps30
  go_wp2_with fail
  go_loopw [5] (fun i wr => ∃ k : Nat, k ≤ L.length ∧ i = .int .i64 k ∧ w.grownBy wr none) (fun i _ => L.length - (intOf i).toNat)
  case atStart => exact ⟨0, Nat.zero_le _, rfl, gb_refl _ _⟩
  case round =>
    obtain ⟨k, hk, rfl, hg⟩ := hrel
    have HG := hid hg
    by_cases hlt : k < L.length
    · obtain ⟨b, off, rfl, hb, hcell⟩ := (HA.out.keep hg) k hlt
      obtain ⟨b', off', rfl, hb', hcell'⟩ := (HB.out.keep hg) k hlt
      generalize L[k] = X at *
      obtain ⟨op, t, f, kk⟩ := X
      have t0 := hcell 0 (by omega)
      have t1 := hcell 1 (by omega)
      have t2 := hcell 2 (by omega)
      have t3 := hcell 3 (by omega)
      have t0' := hcell' 0 (by omega)
      have t1' := hcell' 1 (by omega)
      have t2' := hcell' 2 (by omega)
      have t3' := hcell' 3 (by omega)
      simp [inCells] at t0 t1 t2 t3 t0' t1' t2' t3'
      clear hcell hcell' hg
      go_wp2_with fail
      go_region
      all_goals
        go_wp2_with fail
        go_roundw
        case rel => exact ⟨k + 1, by omega, by go_num, gb_drew HG.out⟩
        case measure => simp [intOf]; omega
    · have hkn : L.length ≤ k := by omega
      clear hg
      go_wp2_with fail
      go_ret
      exact ⟨rfl, HG.out⟩
end Go.Proofs.Ytldongbimhngfaa
