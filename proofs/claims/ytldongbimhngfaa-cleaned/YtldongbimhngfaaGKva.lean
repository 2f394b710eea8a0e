import Derived.Test.YtldongbimhngfaaKu1
/- Cleaned: what stands side by side; walked. -/
namespace Go.Proofs.Ytldongbimhngfaa
open Go.RowKit Sc
set_option linter.unusedVariables false
set_option linter.unusedSimpArgs false

theorem tos_plain (i : Nat) (x : In) (h1 : isTest x.op = false) (h2 : x.op ≠ 10) (to : Nat) (h : to ∈ tos i x) : to = i + 1 := by
  unfold tos at h
  rw [if_neg (by simp [h1]), if_neg h2] at h
  split at h
  · simp at h
  · simpa using h
/-- a way that comes in where no test and no Go leads to comes from the one in front -/
theorem only_way {N : List In} {bt ot : In → Int → Int} {first : Int} {b : Nat → Int} (hF : Facts N bt ot first b) {i : Nat} (hi : i < N.length)
    (hno : ∀ j (h : j < N.length), Rch N j → isTest N[j].op = true ∨ N[j].op = 10 → i ∉ tos j N[j]) {j : Nat} (hj : j < N.length) {e : Nat × Int} (hb : b j ≠ -2) (he : e ∈ edges j N[j] (bt N[j] (b j)) (ot N[j] (b j))) (heq : e.1 = i) : j + 1 = i ∧ isTest N[j].op = false := by
  have hr := rch_facts hF (j + 1) j (by omega) hb
  have ht := edges_tos _ _ _ _ e he
  rw [heq] at ht
  have hn : ¬ (isTest N[j].op = true ∨ N[j].op = 10) := fun q => hno j hj hr q ht
  have h1 : isTest N[j].op = false := by
    cases q : isTest N[j].op
    · rfl
    · exact absurd (Or.inl q) hn
  exact ⟨(tos_plain j _ h1 (fun q => hn (Or.inr q)) i ht).symm, h1⟩
theorem doneL_side {N : List In} (hd : DoneL N) {i : Nat} (h0 : 0 < i) (hi : i < N.length) (hr : Rch N i)
    (hno : ∀ j (h : j < N.length), Rch N j → isTest N[j].op = true ∨ N[j].op = 10 → i ∉ tos j N[j]) (h1 : N[i].op = 1) (hs : (N[i - 1]'(by omega)) = N[i]) : False := by
  obtain ⟨b, hF, hk⟩ := hd
  have hb := facts_rch hF (by decide) i hr
  refine hk i hi h1 (hF.all i _ h0 hb fun j hj e hbj he heq => ?_)
  obtain ⟨a1, a2⟩ := only_way hF hi hno hj hbj he heq
  have hji : j = i - 1 := by omega
  subst hji
  rw [hs] at he
  rcases edges_val _ _ _ _ e he with q | q <;> rw [q] <;> unfold wordB <;> rw [if_pos h1]
theorem doneK_side {N : List In} (hsn : SoundList N) (hd : DoneK N) {i : Nat} (h0 : 0 < i) (hi : i < N.length) (hr : Rch N i)
    (hno : ∀ j (h : j < N.length), Rch N j → isTest N[j].op = true ∨ N[j].op = 10 → i ∉ tos j N[j]) (h2 : (N[i - 1]'(by omega)).op = 2) (ht : isTest N[i].op = true ∨ N[i].op = 16) : False := by
  obtain ⟨b, hF, hk⟩ := hd
  have hb := facts_rch hF (by decide) i hr
  have hneg := hk i hi ht
  have hkr := hsn.1.2 (i - 1) (by omega)
  unfold InRng at hkr
  have := hF.all i (N[i - 1]'(by omega)).k h0 hb (fun j hj e hbj he heq => by
    obtain ⟨a1, a2⟩ := only_way hF hi hno hj hbj he heq
    have hji : j = i - 1 := by omega
    subst hji
    rcases edges_val _ _ _ _ e he with q | q
    · rw [q]; show valueB _ true _ = _; unfold valueB; rw [if_pos (Or.inl h2)]
    · rw [q]; show valueB _ false _ = _; unfold valueB; rw [if_pos (Or.inl h2)])
  omega
/-- what is walked so far -/
structure WkOk (L : List In) (B : List Bool) (k : Nat) : Prop where
  len : B.length = L.length + 1
  zero : kp B 0 = true
  sound : ∀ i, kp B i = true → Rch L i
  closed : ∀ i (h : i < L.length), i < k → kp B i = true → ∀ to ∈ tos i L[i], kp B to = true
theorem kp_set (B : List Bool) (a i : Nat) : kp (B.set a true) i = if a = i ∧ a < B.length then true else kp B i := by
  unfold kp
  rw [List.getElem?_set]
  by_cases h : a = i
  · subst h
    by_cases h2 : a < B.length
    · simp [h2]
    · simp [h2]
  · simp [h]
theorem WkOk.skip {L : List In} {B : List Bool} {k : Nat} (h : WkOk L B k) (hs : kp B k = true → ∀ hk : k < L.length, tos k L[k] = []) : WkOk L B (k + 1) := by
  refine ⟨h.len, h.zero, h.sound, fun i hi hik hb to ht => ?_⟩
  by_cases q : i = k
  · subst q
    rw [hs hb hi] at ht
    simp at ht
  · exact h.closed i hi (by omega) hb to ht
theorem WkOk.step {L : List In} {B : List Bool} {k : Nat} (h : WkOk L B k) (hk : k < L.length) (hb : kp B k = true) (a b : Nat) (ha : a ∈ tos k L[k]) (hb2 : b ∈ tos k L[k]) (hab : ∀ to ∈ tos k L[k], to = a ∨ to = b) (hin : ∀ to ∈ tos k L[k], to < L.length) : WkOk L ((B.set a true).set b true) (k + 1) := by
  have hset : ∀ i, kp ((B.set a true).set b true) i = true ↔ (kp B i = true ∨ i = a ∨ i = b) := by
    intro i
    have l1 := hin a ha
    have l2 := hin b hb2
    have l3 := h.len
    rw [kp_set, kp_set, List.length_set]
    by_cases q1 : b = i
    · subst q1; rw [if_pos ⟨rfl, by omega⟩]; simp
    · rw [if_neg (fun q => q1 q.1)]
      by_cases q2 : a = i
      · subst q2; rw [if_pos ⟨rfl, by omega⟩]; simp
      · rw [if_neg (fun q => q2 q.1)]
        constructor
        · intro z; exact Or.inl z
        · rintro (z | z | z)
          · exact z
          · exact absurd z.symm q2
          · exact absurd z.symm q1
  have hR := h.sound k hb
  refine ⟨by simp [h.len], (hset 0).2 (Or.inl h.zero), fun i hi => ?_, fun i hi hik hbi to ht => ?_⟩
  · rcases (hset i).1 hi with q | q | q
    · exact h.sound i q
    · rw [q]; exact Rch.step hk hR ha
    · rw [q]; exact Rch.step hk hR hb2
  · have on1 := tos_on k _ a ha
    have on2 := tos_on k _ b hb2
    by_cases q : i = k
    · subst q
      rw [hset]
      rcases hab to ht with z | z
      · exact Or.inr (Or.inl z)
      · exact Or.inr (Or.inr z)
    · rw [hset] at hbi ⊢
      rcases hbi with z | z | z
      · exact Or.inl (h.closed i hi (by omega) z to ht)
      · omega
      · omega
theorem WkOk.all {L : List In} {B : List Bool} (h : WkOk L B L.length) (i : Nat) : kp B i = true ↔ Rch L i := by
  refine ⟨h.sound i, fun hr => ?_⟩
  exact hr (fun i => kp B i = true) h.zero (fun i to hi ih ht => h.closed _ hi hi ih _ ht)
theorem own_bset {w : World} {base g n cap : Nat} {B : List Bool} (h : w.ownsRow base 4 1 (.slice (some ⟨g, 0, none⟩) n cap) n (B.map Value.bool)) (i : Nat) : (w.setCell ⟨g, i, none⟩ (.bool true)).ownsRow base 4 1 (.slice (some ⟨g, 0, none⟩) n cap) n ((B.set i true).map Value.bool) := by
  have := (h.stored i (.bool true)).1
  rw [List.map_set]
  exact this
end Go.Proofs.Ytldongbimhngfaa
/- walked: sievekeep's walk. -/
namespace Go.Proofs.Ytldongbimhngfaa
open Go.RowKit
set_option linter.unusedVariables false
set_option linter.unusedSimpArgs false

set_option maxRecDepth 100000 in
set_option maxHeartbeats 8000000 in
theorem kWalked_any (w : World) (sa : Option Addr) (sc : Nat) (L : List Sc.In) (hI : InsAt w sa L) (hs : SoundList L) :
    Calls Try.prog 46 #[.slice sa L.length sc] w fun e w' => ∃ B : List Bool, e = .returned (.slice (some ⟨w.heap.size, 0, none⟩) (L.length + 1) (L.length + 1)) ∧ w.grownBy w' none ∧ B.length = L.length + 1 ∧ (∀ i, Sc.kp B i = true ↔ Sc.Rch L i) ∧ w'.ownsRow w.heap.size 4 1 (.slice (some ⟨w.heap.size, 0, none⟩) (L.length + 1) (L.length + 1)) (L.length + 1) (B.map Value.bool) := by
  obtain ⟨iB, iB_e, iB_z, iB_s, iB_b⟩ := imBo_ex
  have iB_eq := hid iB_e
  have hn := hs.1.1
  have HI := hid hI
  have HS := hid hs
  clear iB_e hI hs
  go_enter Try.func46, Try.ntmps46

  go_wp2_with (first
    | (at_make; refine wpList_make_full _ rfl _ _ 66 rfl w.heap.size 4 iB (.bool false) 1 imBos iB_eq.out iB_z iB_s _ _ _ _ (L.length + 1) rfl rfl (by first | rfl | omega) (by first | rfl | omega) (by rw [iB_b]; omega) (by unfold maxLen; omega) (Nat.le_refl _) ?_)
    | fail)
  intro w1 hown1 hgrow1
  have e1 : (madeCells #[Value.bool false] (L.length + 1)).toList = (List.replicate (L.length + 1) false).map Value.bool := by
    rw [toList_madeCells_one]; simp
  rw [e1] at hown1
  have c0 := own_boo (by simp) hown1 0 (by simp)
  have f0 := hown1.frozenAt 0
  have O2 := hid (own_bset hown1 0)
  have G2 := hid (gb_own hgrow1 (Nat.le_refl _) 0 (.bool true))
  clear hown1 hgrow1 e1
  generalize Sc.kp (List.replicate (L.length + 1) false) 0 = b00 at *
  go_wp2_with fail
  clear c0 f0
  generalize w1.setCell ⟨w.heap.size, 0, none⟩ (.bool true) = w2 at *
  have W0 : Hid (WkOk L ((List.replicate (L.length + 1) false).set 0 true) 0) := by
    have hkp : ∀ i, Sc.kp ((List.replicate (L.length + 1) false).set 0 true) i = true → i = 0 := by
      intro i h
      rw [kp_set] at h
      by_cases q : 0 = i
      · exact q.symm
      · rw [if_neg (fun z => q z.1)] at h
        unfold Sc.kp at h
        rw [List.getElem?_replicate] at h
        split at h <;> cases h
    refine ⟨by simp, by rw [kp_set]; simp, fun i h => ?_, fun i hi h => by omega⟩
    rw [hkp i h]; exact Sc.Rch.zero
  go_loopw [4] (fun i wr => ∃ (k : Nat) (B : List Bool), k ≤ L.length ∧ i = .int .i64 k ∧ w.grownBy wr none ∧ Hid (WkOk L B k) ∧ wr.ownsRow w.heap.size 4 1 (.slice (some ⟨w.heap.size, 0, none⟩) (L.length + 1) (L.length + 1)) (L.length + 1) (B.map Value.bool)) (fun i wr => L.length - (intOf i).toNat)
  case atStart => exact ⟨0, _, Nat.zero_le _, rfl, G2.out, W0, O2.out⟩
  case round =>
    obtain ⟨k, B, hk, rfl, hg, hW, hown⟩ := hrel
    have HG := hid hg
    have hz := hg.size
    have hlen := hW.out.len
    have hgl := (hown.lt w.heap.size rfl).2
    clear W0 O2 G2
    by_cases hlt : k < L.length
    · have hlt' : (k : Int) < (L.length : Int) := by omega
      obtain ⟨b, off, hsa, hb, hcell⟩ := (HI.out.keep hg) k hlt
      have t0 := hcell 0 (by omega)
      have t1 := hcell 1 (by omega)
      have t2 := hcell 2 (by omega)
      have t3 := hcell 3 (by omega)
      have HOr := hid hown
      have HO := hid (hown.alloc (.cells (inCells L[k]) 46))
      have HA := hid (gb_alloc HG.out (.cells (inCells L[k]) 46))
      have ck := own_boo hlen.symm hown k (by omega)
      have cB := fun i (hi : i < L.length + 1) => own_boo hlen.symm hown i (by omega)
      have cf := fun i => hown.frozenAt i
      have hin := HS.out.tos_in k hlt
      have hxr := HS.out.1.2 k hlt
      have hsk := hid (fun h => hW.out.skip h)
      have hst := hid (fun hb a b h1 h2 h3 => hW.out.step hlt hb a b h1 h2 h3 hin)
      have htos : Hid (Sc.tos k L[k] = if Sc.isTest L[k].op = true then [k + 1 + L[k].f.toNat, k + 1 + L[k].t.toNat] else if L[k].op = 10 then [k + 1 + L[k].k.toNat] else if L[k].op = 15 ∨ L[k].op = 16 then [] else [k + 1]) := rfl
      have hT := hid (fun w => kIsTest_any w L[k].op)
      clear hg hcell
      rw [htos.out] at hin hst
      have hsk2 : Hid ((Sc.kp B k = true → Sc.tos k L[k] = []) → WkOk L B (k + 1)) := fun h => hsk.out (fun hb hk2 => h hb)
      rw [htos.out] at hsk2
      clear hsk htos hW
      have Hin := hid hin
      clear hin
      generalize L[k] = X at *
      obtain ⟨op, t, f, kk⟩ := X
      obtain ⟨x1, x2, x3, x4, x5, x6, x7, x8⟩ := hxr
      simp only at x1 x2 x3 x4 x5 x6 x7 x8 hT hst hsk2 Hin
      obtain ⟨t, rfl⟩ := Int.eq_ofNat_of_zero_le x3
      obtain ⟨f, rfl⟩ := Int.eq_ofNat_of_zero_le x5
      obtain ⟨kk, rfl⟩ := Int.eq_ofNat_of_zero_le x7
      simp only [Int.toNat_natCast] at hst hsk2 Hin
      simp only [inCells] at HO HA
      simp [inCells] at t0 t1 t2 t3
      subst hsa
      clear hown
      by_cases ht : Sc.isTest op = true
      · rw [if_pos ht] at hst hsk2 Hin
        have h11 := test_ne op ht
        rw [ht] at hT
        have e10 : (op == 10) = false := by rw [beq_eq_false_iff_ne]; omega
        have e15 : (op == 15) = false := by rw [beq_eq_false_iff_ne]; omega
        have e16 : (op == 16) = false := by rw [beq_eq_false_iff_ne]; omega
        have i1 : k + 1 + t < L.length := Hin.out _ (by simp)
        have i2 : k + 1 + f < L.length := Hin.out _ (by simp)
        clear ht h11
        cases hkb : Sc.kp B k
        · rw [hkb] at ck
          have hN := hid (hsk2.out (fun h => by rw [hkb] at h; cases h))
          clear hsk2 hst Hin
          go_wp2_with fail
          refine (hT.out _).mono ?_
          rintro e w3 ⟨rfl, rfl⟩
          clear hT
          go_wp2_with fail
          go_roundw
          case rel => exact ⟨k + 1, B, by omega, by go_num, HA.out, hN, HO.out⟩
          case measure => simp [intOf]; omega
        · rw [hkb] at ck
          have hN := hid (hst.out hkb (k + 1 + t) (k + 1 + f) (by simp) (by simp) (fun to h => by simp at h; omega))
          by_cases htf : t = f
          · subst htf
            have ca := cB (k + 1 + t) (by omega)
            have cb := cB (k + 1 + t) (by omega)
            have ga : (k : Int) + 1 + (t : Int) ≤ (L.length : Int) := by omega
            have gb : (k : Int) + 1 + (t : Int) ≤ (L.length : Int) := by omega
            have na : ((k : Int) + 1 + (t : Int)).toNat = k + 1 + t := by omega
            have nb : ((k : Int) + 1 + (t : Int)).toNat = k + 1 + t := by omega
            have oa : (k : Int) + 1 + (t : Int) < (L.length : Int) + 1 := by omega
            have ob : (k : Int) + 1 + (t : Int) < (L.length : Int) + 1 := by omega
            have H2 := hid ((own_bset (own_bset HOr.out (k + 1 + t)) (k + 1 + t)).alloc (.cells #[.int .i64 op, .int .i64 t, .int .i64 t, .int .i64 kk] 46))
            have G2 := hid (gb_alloc (gb_own (gb_own HG.out (Nat.le_refl _) (k + 1 + t) (.bool true)) (Nat.le_refl _) (k + 1 + t) (.bool true)) (.cells #[.int .i64 op, .int .i64 t, .int .i64 t, .int .i64 kk] 46))
            clear hsk2 hst Hin HO HA cB
            generalize Sc.kp B (k + 1 + t) = va at *
            generalize Sc.kp B (k + 1 + t) = vb at *
            go_wp2_with fail
            refine (hT.out _).mono ?_
            rintro e w3 ⟨rfl, rfl⟩
            clear hT
            go_wp2_with fail
            go_roundw
            case rel => exact ⟨k + 1, _, by omega, by go_num, G2.out, hN, H2.out⟩
            case measure => simp [intOf]; omega
          · have hne : ¬ (k + 1 + t = k + 1 + f) := by omega
            have hne2 : ¬ (k + 1 + f = k + 1 + t) := by omega
            have hne3 : ¬ f = t := fun e => htf e.symm
            have ca := cB (k + 1 + t) (by omega)
            have cb := cB (k + 1 + f) (by omega)
            have ga : (k : Int) + 1 + (t : Int) ≤ (L.length : Int) := by omega
            have gb : (k : Int) + 1 + (f : Int) ≤ (L.length : Int) := by omega
            have na : ((k : Int) + 1 + (t : Int)).toNat = k + 1 + t := by omega
            have nb : ((k : Int) + 1 + (f : Int)).toNat = k + 1 + f := by omega
            have oa : (k : Int) + 1 + (t : Int) < (L.length : Int) + 1 := by omega
            have ob : (k : Int) + 1 + (f : Int) < (L.length : Int) + 1 := by omega
            have H2 := hid ((own_bset (own_bset HOr.out (k + 1 + t)) (k + 1 + f)).alloc (.cells #[.int .i64 op, .int .i64 t, .int .i64 f, .int .i64 kk] 46))
            have G2 := hid (gb_alloc (gb_own (gb_own HG.out (Nat.le_refl _) (k + 1 + t) (.bool true)) (Nat.le_refl _) (k + 1 + f) (.bool true)) (.cells #[.int .i64 op, .int .i64 t, .int .i64 f, .int .i64 kk] 46))
            clear hsk2 hst Hin HO HA cB
            generalize Sc.kp B (k + 1 + t) = va at *
            generalize Sc.kp B (k + 1 + f) = vb at *
            go_wp2_with fail
            refine (hT.out _).mono ?_
            rintro e w3 ⟨rfl, rfl⟩
            clear hT
            go_wp2_with fail
            go_roundw
            case rel => exact ⟨k + 1, _, by omega, by go_num, G2.out, hN, H2.out⟩
            case measure => simp [intOf]; omega
      · rw [if_neg ht] at hst hsk2 Hin
        have hnt : Sc.isTest op = false := by simpa using ht
        rw [hnt] at hT
        clear ht hnt
        by_cases h10 : op = 10
        · rw [if_pos h10] at hst hsk2 Hin
          subst h10
          have i1 : k + 1 + kk < L.length := Hin.out _ (by simp)
          cases hkb : Sc.kp B k
          · rw [hkb] at ck
            have hN := hid (hsk2.out (fun h => by rw [hkb] at h; cases h))
            clear hsk2 hst Hin
            go_wp2_with fail
            refine (hT.out _).mono ?_
            rintro e w3 ⟨rfl, rfl⟩
            clear hT
            go_wp2_with fail
            go_roundw
            case rel => exact ⟨k + 1, B, by omega, by go_num, HA.out, hN, HO.out⟩
            case measure => simp [intOf]; omega
          · rw [hkb] at ck
            have hN := hid (hst.out hkb (k + 1 + kk) (k + 1 + kk) (by simp) (by simp) (fun to h => by simp at h; omega))
            have ca := cB (k + 1 + kk) (by omega)
            have cb := cB (k + 1 + kk) (by omega)
            have ga : (k : Int) + 1 + (kk : Int) ≤ (L.length : Int) := by omega
            have gb : (k : Int) + 1 + (kk : Int) ≤ (L.length : Int) := by omega
            have na : ((k : Int) + 1 + (kk : Int)).toNat = k + 1 + kk := by omega
            have nb : ((k : Int) + 1 + (kk : Int)).toNat = k + 1 + kk := by omega
            have oa : (k : Int) + 1 + (kk : Int) < (L.length : Int) + 1 := by omega
            have ob : (k : Int) + 1 + (kk : Int) < (L.length : Int) + 1 := by omega
            have H2 := hid ((own_bset (own_bset HOr.out (k + 1 + kk)) (k + 1 + kk)).alloc (.cells #[.int .i64 10, .int .i64 t, .int .i64 f, .int .i64 kk] 46))
            have G2 := hid (gb_alloc (gb_own (gb_own HG.out (Nat.le_refl _) (k + 1 + kk) (.bool true)) (Nat.le_refl _) (k + 1 + kk) (.bool true)) (.cells #[.int .i64 10, .int .i64 t, .int .i64 f, .int .i64 kk] 46))
            clear hsk2 hst Hin HO HA cB
            generalize Sc.kp B (k + 1 + kk) = va at *
            generalize Sc.kp B (k + 1 + kk) = vb at *
            go_wp2_with fail
            refine (hT.out _).mono ?_
            rintro e w3 ⟨rfl, rfl⟩
            clear hT
            go_wp2_with fail
            go_roundw
            case rel => exact ⟨k + 1, _, by omega, by go_num, G2.out, hN, H2.out⟩
            case measure => simp [intOf]; omega
        · have e10 : (op == 10) = false := by simp [h10]
          rw [if_neg h10] at hst hsk2 Hin
          by_cases h15 : op = 15
          · rw [if_pos (Or.inl h15)] at hst hsk2 Hin
            subst h15
            clear h10
            cases hkb : Sc.kp B k
            · rw [hkb] at ck
              have hN := hid (hsk2.out (fun _ => rfl))
              clear hsk2 hst Hin
              go_wp2_with fail
              refine (hT.out _).mono ?_
              rintro e w3 ⟨rfl, rfl⟩
              clear hT
              go_wp2_with fail
              go_roundw
              case rel => exact ⟨k + 1, B, by omega, by go_num, HA.out, hN, HO.out⟩
              case measure => simp [intOf]; omega
            · rw [hkb] at ck
              have hN := hid (hsk2.out (fun _ => rfl))
              clear hsk2 hst Hin
              go_wp2_with fail
              refine (hT.out _).mono ?_
              rintro e w3 ⟨rfl, rfl⟩
              clear hT
              go_wp2_with fail
              go_roundw
              case rel => exact ⟨k + 1, B, by omega, by go_num, HA.out, hN, HO.out⟩
              case measure => simp [intOf]; omega
          have e15 : (op == 15) = false := by simp [h15]
          by_cases h16 : op = 16
          · rw [if_pos (Or.inr h16)] at hst hsk2 Hin
            subst h16
            clear h10 h15
            cases hkb : Sc.kp B k
            · rw [hkb] at ck
              have hN := hid (hsk2.out (fun _ => rfl))
              clear hsk2 hst Hin
              go_wp2_with fail
              refine (hT.out _).mono ?_
              rintro e w3 ⟨rfl, rfl⟩
              clear hT
              go_wp2_with fail
              go_roundw
              case rel => exact ⟨k + 1, B, by omega, by go_num, HA.out, hN, HO.out⟩
              case measure => simp [intOf]; omega
            · rw [hkb] at ck
              have hN := hid (hsk2.out (fun _ => rfl))
              clear hsk2 hst Hin
              go_wp2_with fail
              refine (hT.out _).mono ?_
              rintro e w3 ⟨rfl, rfl⟩
              clear hT
              go_wp2_with fail
              go_roundw
              case rel => exact ⟨k + 1, B, by omega, by go_num, HA.out, hN, HO.out⟩
              case measure => simp [intOf]; omega
          have e16 : (op == 16) = false := by simp [h16]
          rw [if_neg (by omega)] at hst hsk2 Hin
          have i1 : k + 1 < L.length := Hin.out _ (by simp)
          clear h10 h15 h16
          cases hkb : Sc.kp B k
          · rw [hkb] at ck
            have hN := hid (hsk2.out (fun h => by rw [hkb] at h; cases h))
            clear hsk2 hst Hin
            go_wp2_with fail
            refine (hT.out _).mono ?_
            rintro e w3 ⟨rfl, rfl⟩
            clear hT
            go_wp2_with fail
            go_roundw
            case rel => exact ⟨k + 1, B, by omega, by go_num, HA.out, hN, HO.out⟩
            case measure => simp [intOf]; omega
          · rw [hkb] at ck
            have hN := hid (hst.out hkb (k + 1) (k + 1) (by simp) (by simp) (fun to h => by simp at h; omega))
            have ca := cB (k + 1) (by omega)
            have cb := cB (k + 1) (by omega)
            have ga : (k : Int) + 1 ≤ (L.length : Int) := by omega
            have gb : (k : Int) + 1 ≤ (L.length : Int) := by omega
            have na : ((k : Int) + 1).toNat = k + 1 := by omega
            have nb : ((k : Int) + 1).toNat = k + 1 := by omega
            have oa : (k : Int) + 1 < (L.length : Int) + 1 := by omega
            have ob : (k : Int) + 1 < (L.length : Int) + 1 := by omega
            have H2 := hid ((own_bset (own_bset HOr.out (k + 1)) (k + 1)).alloc (.cells #[.int .i64 op, .int .i64 t, .int .i64 f, .int .i64 kk] 46))
            have G2 := hid (gb_alloc (gb_own (gb_own HG.out (Nat.le_refl _) (k + 1) (.bool true)) (Nat.le_refl _) (k + 1) (.bool true)) (.cells #[.int .i64 op, .int .i64 t, .int .i64 f, .int .i64 kk] 46))
            clear hsk2 hst Hin HO HA cB
            generalize Sc.kp B (k + 1) = va at *
            generalize Sc.kp B (k + 1) = vb at *
            go_wp2_with fail
            refine (hT.out _).mono ?_
            rintro e w3 ⟨rfl, rfl⟩
            clear hT
            go_wp2_with fail
            go_roundw
            case rel => exact ⟨k + 1, _, by omega, by go_num, G2.out, hN, H2.out⟩
            case measure => simp [intOf]; omega
    · have hkk : k = L.length := by omega
      subst hkk
      have HO := hid hown
      have hA := hid (fun i => hW.out.all i)
      clear hown hg hW
      go_wp2_with fail
      go_ret
      exact ⟨B, rfl, HG.out, hlen, hA.out, HO.out⟩
end Go.Proofs.Ytldongbimhngfaa
/- How often tests and Gos lead to an instruction. -/
namespace Go.Proofs.Ytldongbimhngfaa
open Go.RowKit Sc
set_option linter.unusedVariables false
set_option linter.unusedSimpArgs false

def inc (D : List Int) (a : Nat) : List Int := D.set a (fAt D a + 1)
theorem inc_len (D : List Int) (a : Nat) : (inc D a).length = D.length := by simp [inc]
theorem inc_at (D : List Int) (a j : Nat) : fAt (inc D a) j = if a = j ∧ a < D.length then fAt D a + 1 else fAt D j := fAt_set D a j _
/-- what is counted so far -/
structure LedOk (L : List In) (D : List Int) (k : Nat) : Prop where
  len : D.length = L.length + 16 + 1024
  rng : ∀ j, j < D.length → 0 ≤ fAt D j ∧ fAt D j ≤ 2 * (k : Int)
  led : ∀ i (h : i < L.length), i < k → Rch L i → isTest L[i].op = true ∨ L[i].op = 10 → ∀ to ∈ tos i L[i], 1 ≤ fAt D to
theorem LedOk.skip {L : List In} {D : List Int} {k : Nat} (h : LedOk L D k) (hs : ∀ hk : k < L.length, ¬ (Rch L k ∧ (isTest L[k].op = true ∨ L[k].op = 10))) : LedOk L D (k + 1) := by
  refine ⟨h.len, fun j hj => ?_, fun i hi hik hr ho to ht => ?_⟩
  · have := h.rng j hj; omega
  · by_cases q : i = k
    · subst q; exact absurd ⟨hr, ho⟩ (hs hi)
    · exact h.led i hi (by omega) hr ho to ht
theorem LedOk.one {L : List In} {D : List Int} {k : Nat} (h : LedOk L D k) (hk : k < L.length) (a : Nat) (ha : a < L.length) (hab : ∀ to ∈ tos k L[k], to = a) : LedOk L (inc D a) (k + 1) := by
  have hl := h.len
  refine ⟨by rw [inc_len]; exact h.len, fun j hj => ?_, fun i hi hik hr ho to ht => ?_⟩
  · rw [inc_len] at hj
    have h1 := h.rng j hj
    rw [inc_at]
    split
    · next q => have := h.rng a (by omega); omega
    · omega
  · rw [inc_at]
    by_cases q : i = k
    · subst q
      have := hab to ht
      subst this
      rw [if_pos ⟨rfl, by omega⟩]
      have := h.rng to (by omega)
      omega
    · have h1 := h.led i hi (by omega) hr ho to ht
      split
      · next z => have := h.rng a (by omega); omega
      · exact h1
theorem LedOk.two {L : List In} {D : List Int} {k : Nat} (h : LedOk L D k) (hk : k < L.length) (a b : Nat) (ha : a < L.length) (hb : b < L.length) (hab : ∀ to ∈ tos k L[k], to = a ∨ to = b) : LedOk L (inc (inc D a) b) (k + 1) := by
  have hl := h.len
  have mono : ∀ (D : List Int) c j, c < D.length → fAt D j ≤ fAt (inc D c) j ∧ fAt (inc D c) j ≤ fAt D j + 1 := by
    intro D c j hc
    rw [inc_at]
    split
    · next q => rw [q.1]; omega
    · omega
  have atc : ∀ (D : List Int) c, c < D.length → fAt (inc D c) c = fAt D c + 1 := by
    intro D c hc; rw [inc_at, if_pos ⟨rfl, hc⟩]
  refine ⟨by rw [inc_len, inc_len]; exact h.len, fun j hj => ?_, fun i hi hik hr ho to ht => ?_⟩
  · rw [inc_len, inc_len] at hj
    have h1 := h.rng j hj
    have m1 := mono D a j (by omega)
    have m2 := mono (inc D a) b j (by rw [inc_len]; omega)
    omega
  · have m1 := mono D a to (by omega)
    have m2 := mono (inc D a) b to (by rw [inc_len]; omega)
    by_cases q : i = k
    · subst q
      rcases hab to ht with z | z
      · subst z
        have := atc D to (by omega)
        have := h.rng to (by omega)
        omega
      · subst z
        have h3 := atc (inc D a) to (by rw [inc_len]; omega)
        have h4 := h.rng to (by omega)
        omega
    · have h1 := h.led i hi (by omega) hr ho to ht
      omega
theorem LedOk.none {L : List In} {D : List Int} (h : LedOk L D L.length) {i : Nat} (h0 : fAt D i = 0) : ∀ j (hj : j < L.length), Rch L j → isTest L[j].op = true ∨ L[j].op = 10 → i ∉ tos j L[j] := by
  intro j hj hr ho ht
  have := h.led j hj hj hr ho i ht
  omega
/-- what is asked of a list behind a pass -/
def CleanOk (b : Int) (L : List In) : Prop := (b = 100 ∧ ∀ q, q < L.length → Rch L q) ∨ (b = 106 ∧ TidyS L) ∨ (b = 108 ∧ DoneL L) ∨ (b = 107 ∧ DoneK L)
theorem tidy_at {L : List In} (h : TidyS L) (i : Nat) (hi : i < L.length) : (isTest L[i].op = true → L[i].t ≠ L[i].f) ∧ (L[i].op = 10 → L[i].k ≠ 0 ∧ ∀ y, L[i + 1 + L[i].k.toNat]? = some y → y.op ≠ 10 ∧ y.op ≠ 15 ∧ y.op ≠ 16) := by
  have hd := tidyS_drop i h
  rw [List.drop_eq_getElem_cons hi] at hd
  refine ⟨hd.1, fun q => ⟨(hd.2.1 q).1, fun y hy => (hd.2.1 q).2 y ?_⟩⟩
  rw [List.getElem?_drop]
  exact hy
end Go.Proofs.Ytldongbimhngfaa
/- clean: sievekeep's walk begins. -/
namespace Go.Proofs.Ytldongbimhngfaa
open Go.RowKit
set_option linter.unusedVariables false
set_option linter.unusedSimpArgs false

theorem led0 (L : List Sc.In) (n : Nat) (hn : n = L.length + 16 + 1024) : LedOk L (List.replicate n 0) 0 := by
  refine ⟨by simp [hn], fun j hj => ?_, fun i hi h => by omega⟩
  have : Sc.fAt (List.replicate n 0) j = 0 := by unfold Sc.fAt; simp at hj; simp [hj]
  rw [this]; omega
end Go.Proofs.Ytldongbimhngfaa
