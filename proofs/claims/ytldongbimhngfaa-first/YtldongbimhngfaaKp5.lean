import Derived.Test.YtldongbimhngfaaMk
import Derived.Deep.LoopGhost
namespace Go.Proofs.Ytldongbimhngfaa
open Go.RowKit
set_option linter.unusedVariables false
set_option linter.unusedSimpArgs false

theorem ba_cons (fm : ByteArray) (h : 0 < fm.size) : ∃ e F, fm.data.toList = e :: F ∧ fm[0] = e ∧ (fm.extract 1 fm.size).data.toList = F ∧ fm.toList.isEmpty = false := by
  obtain ⟨⟨l⟩⟩ := fm
  match l, h with
  | e :: K, _ =>
    refine ⟨e, K, rfl, rfl, ?_, ?_⟩
    · simp [ByteArray.size]
    · have : (ByteArray.mk (Array.mk (e :: K))).toList = e :: K := ByteArray.toList_mk (e :: K)
      rw [this]; rfl
theorem ba_nil (fm : ByteArray) (h : ¬ 0 < fm.size) : fm = ⟨#[]⟩ := by
  obtain ⟨⟨l⟩⟩ := fm
  have h' : ¬ 0 < l.length := h
  have hl : l = [] := List.eq_nil_of_length_eq_zero (by omega)
  rw [hl]
theorem ba_size (b : ByteArray) : b.data.toList.length = b.size := Array.length_toList

/-- whatever goes on from here can be made from the beginning -/
def Goes (F0 F T : List UInt8) : Prop := ∀ B n, Der n F B → ∃ n', Der n' F0 (T ++ B)
theorem goes_step {F0 F T a more : List UInt8} {e : UInt8} (h : Goes F0 (e :: F) T) (hs : StepOk false e a more) : Goes F0 (more ++ F) (T ++ a) := by
  intro B n hB
  obtain ⟨n', h'⟩ := h (a ++ B) (n + 1) ⟨e, F, a, more, B, rfl, hs, rfl, hB⟩
  exact ⟨n', by rw [List.append_assoc]; exact h'⟩

set_option maxRecDepth 100000 in
set_option maxHeartbeats 1000000 in
theorem made_any (w : World) (la : Option Addr) (ll lc : Nat) (z : Nat → Int) (f0 : ByteArray) (room k0 : Nat) (hR : RawRow w w.heap.size la ll z) (hll : ll ≤ maxLen) (hroom : room ≤ 300)
    (hbd : Bd room f0.data.toList [] k0) :
    Calls Try.prog 38 #[.slice la ll lc, .string f0, .int .i64 room] w fun e w' => ∃ (T : ByteArray) (n : Nat), e = .returned (.string T) ∧ Der n f0.data.toList T.data.toList ∧ T.size ≤ 2 * room + 36 ∧ w.grownBy w' none := by
  have HR := hid hR
  have Hbd := hid hbd
  clear hR hbd
  go_enter Try.func38, Try.ntmps38
  go_wp2_with fail
  go_loopg [1] (2 * room + 36) (fun g f wr => ∃ (fm T : ByteArray) (k p : Nat), f = .string fm ∧ MkAt wr w.heap.size la ll lc p T room ∧ p ≤ ll ∧ Bd room fm.data.toList T.data.toList k ∧ Goes f0.data.toList fm.data.toList T.data.toList ∧ w.grownBy wr (some w.heap.size) ∧ T.size + g = 2 * room + 36)
  case atStart =>
    exact ⟨f0, ⟨#[]⟩, k0, 0, rfl, Blk.new w _ _, Nat.zero_le _, Hbd.out, fun B n h => ⟨n, h⟩, gb_alloc (gb_refl _ _) _, by simp [ByteArray.size]⟩
  case round =>
    obtain ⟨fm, T, k, p, rfl, hM, hp, hB, hG, hg, hsz⟩ := hrel
    have hT : T.size ≤ 1000 := by omega
    have hlenT := ba_size T
    have hz0 := hg.size
    by_cases hf : 0 < fm.size
    · obtain ⟨e, F, hF, he, hx, hemp⟩ := ba_cons fm hf
      rw [hF] at hB hG
      have hsg := shape_sign hB.shape
      have hml := hB.len
      have hfs : fm.size ≤ 1000 := by
        have h1 := ba_size fm
        have h3 := len_mlen (e :: F)
        rw [hF] at h1
        omega
      have hRr : RawRow wr w.heap.size la ll z := HR.out.keep hg (Nat.le_refl _) (fun k hk => by simp at hk; omega)
      have hP := piece_any e hsg wr w.heap.size w.heap.size la ll lc p T room z hM hRr (Nat.le_refl _) hll hT (by omega) hp
      have he' : ((fm[0]'hf).toNat : Int) = (e.toNat : Int) := by rw [he]
      have hne : (fm.toList == (ByteArray.mk #[]).toList) = false := by
        have h2 : (ByteArray.mk #[]).toList = [] := ByteArray.toList_mk []
        rw [h2]
        cases hl : fm.toList with
        | nil => rw [hl] at hemp; cases hemp
        | cons a b => rfl
      generalize hXX : fm.extract 1 fm.size = R at *
      have hRs : R.size ≤ 1000 := by
        have h1 := ba_size R
        have h2 := ba_size fm
        rw [hx] at h1; rw [hF] at h2; simp at h2; omega
      have Hx := hid hx
      have HG := hid hG
      have HBd := hid hB
      have HF := hid hF
      have Hl := hid hlenT
      clear hx hG hB hF he hM hlenT
      go_wp2_with fail
      refine hP.mono ?_
      clear hP
      rintro r w1 ⟨a, more, p', rfl, hst, hp', hM1, hg1⟩
      have hla := step_len hst
      have hsa := ba_size a
      have hst' : StepOk (decide (room < T.data.toList.length)) e a.data.toList more.data.toList := by rw [Hl.out]; exact hst
      obtain ⟨k', hbd'⟩ := bd_step HBd.out hst'
      have hlb := hbd'.len
      have hmores : more.size ≤ 1000 := by
        have h1 := ba_size more
        have h2 := step_more hst
        omega
      have has : a.size ≤ 4 := by omega
      have hone : 1 ≤ a.size := by omega
      have c2 := hM1.cell 2
      have cf := hM1.fz 2
      simp at c2
      have HM1 := hid hM1
      have Hg1 := hid (gb_trans hg hg1)
      have Hst := hid hst.weak
      have Hbd' := hid hbd'
      have hlen2 : (T.data.toList ++ a.data.toList).length = T.size + a.size := by rw [List.length_append, ba_size, ba_size]
      have hle2 : T.size + a.size ≤ 2 * room + 36 := by omega
      clear hM1 hg1 hst hst' hbd' hla hsa hlb hlen2
      go_wp2_with fail
      go_roundg (gk - a.size)
      case measure => omega
      case rel =>
        have h1 : (T ++ a).data.toList = T.data.toList ++ a.data.toList := by simp
        have h2 : (more ++ R).data.toList = more.data.toList ++ F := by rw [← Hx.out]; simp
        have h3 : (T ++ a).size = T.size + a.size := by simp
        refine ⟨more ++ R, T ++ a, k', p', rfl, HM1.out.set2 _, hp', ?_, ?_, gb_own Hg1.out (Nat.le_refl _) _ _, by omega⟩
        · rw [h1, h2]; exact Hbd'.out
        · rw [h1, h2]; exact goes_step HG.out Hst.out
    · have hnil := ba_nil fm hf
      subst hnil
      have hD := hG [] 0 ⟨rfl, rfl⟩
      rw [List.append_nil] at hD
      have HD := hid hD
      have c2 := hM.cell 2
      simp at c2
      have Hg := hid (gb_none hg (Nat.le_refl _))
      have hle : T.size ≤ 2 * room + 36 := by omega
      clear hD hG hB hM hg
      go_wp2_with fail
      go_ret
      obtain ⟨n, hn⟩ := HD.out
      exact ⟨T, n, rfl, hn, hle, Hg.out⟩

theorem cond_bd : Bd 40 [67] [] 1 := ⟨Or.inl ⟨[], [], rfl, by simp [AOk], by simp [BOk]⟩, by simp, by decide⟩
theorem short_bd : Bd 130 [80] [] 0 := ⟨Or.inr ⟨rfl, by simp [B0Ok]⟩, by simp, by decide⟩
set_option maxHeartbeats 1000000 in
theorem condM_any (w : World) (la : Option Addr) (ll lc : Nat) (z : Nat → Int) (hR : RawRow w w.heap.size la ll z) (hll : ll ≤ maxLen) :
    Calls Try.prog 14 #[.slice la ll lc] w fun e w' => ∃ (T : ByteArray) (n : Nat), e = .returned (.string T) ∧ Der n [67] T.data.toList ∧ T.size ≤ 116 ∧ w.grownBy w' none := by
  have hM := made_any w la ll lc z ⟨#[67]⟩ 40 1 hR hll (by omega) cond_bd
  clear hR
  go_enter Try.func14, Try.ntmps14
  go_wp2_with fail
  refine hM.mono ?_
  rintro e w1 ⟨T, n, rfl, hD, hT, hg⟩
  clear hM
  have HD := hid hD
  clear hD
  go_wp2_with fail
  go_ret
  exact ⟨T, n, rfl, HD.out, by omega, hg⟩
set_option maxHeartbeats 1000000 in
theorem shortM_any (w : World) (la : Option Addr) (ll lc : Nat) (z : Nat → Int) (hR : RawRow w w.heap.size la ll z) (hll : ll ≤ maxLen) :
    Calls Try.prog 15 #[.slice la ll lc] w fun e w' => ∃ (T : ByteArray) (n : Nat), e = .returned (.string T) ∧ Der n [80] T.data.toList ∧ T.size ≤ 296 ∧ w.grownBy w' none := by
  have hM := made_any w la ll lc z ⟨#[80]⟩ 130 0 hR hll (by omega) short_bd
  clear hR
  go_enter Try.func15, Try.ntmps15
  go_wp2_with fail
  refine hM.mono ?_
  rintro e w1 ⟨T, n, rfl, hD, hT, hg⟩
  clear hM
  have HD := hid hD
  clear hD
  go_wp2_with fail
  go_ret
  exact ⟨T, n, rfl, HD.out, by omega, hg⟩
end Go.Proofs.Ytldongbimhngfaa
