import Derived.Test.YtldongbimhngfaaKp5
namespace Go.Proofs.Ytldongbimhngfaa
open Go.RowKit
set_option linter.unusedVariables false
set_option linter.unusedSimpArgs false

/-- the number k of a list, as a word -/
def wd (ll : Nat) (z : Nat → Int) (k : Nat) : Nat := if k < ll then (pk (z k) 65536).toNat else 0
theorem wd_lt (ll : Nat) (z : Nat → Int) (k : Nat) : wd ll z k < 65536 := by
  have := pk_range (z k) 65536 (by omega)
  unfold wd; split <;> omega
/-- the bytes of the first k words -/
def recB (ll : Nat) (z : Nat → Int) : Nat → List UInt8
  | 0 => []
  | k + 1 => recB ll z k ++ [(wd ll z k % 256).toUInt8, (wd ll z k / 256).toUInt8]
theorem recB_len (ll : Nat) (z : Nat → Int) (k : Nat) : (recB ll z k).length = 2 * k := by
  induction k with
  | zero => rfl
  | succ k ih => simp [recB, ih]; omega
def byteV (b : UInt8) : Value := .int .u8 (b.toNat : Int)

theorem u38 : Try.prog.underlying 62 = some (.slice 5) := by kernel_rfl
theorem iB_ex : ∃ i, Try.prog.info? 5 = some i ∧ i.zero = some (.int .u8 0) ∧ i.size = 1 ∧ i.bytes = 1 := info_ex (by kernel_rfl)

theorem u8_of (n : Nat) (h : n < 256) : ((n.toUInt8).toNat : Int) = (n : Int) := by
  have : n.toUInt8.toNat = n := by simp; omega
  rw [this]
theorem wrap_u8 (n : Int) (h0 : 0 ≤ n) (h1 : n < 256) : IntKind.u8.wrap n = n := IntWalk.u8_in n ⟨h0, by omega⟩

set_option maxRecDepth 100000 in
set_option maxHeartbeats 2000000 in
theorem record_any (w : World) (la : Option Addr) (ll lc : Nat) (z : Nat → Int) (hR : RawRow w w.heap.size la ll z) (hll : ll ≤ maxLen) :
    Calls Try.prog 16 #[.slice la ll lc] w fun e w' => e = .returned (.string ⟨(recB ll z 10).toArray⟩) ∧ w.grownBy w' none := by
  unfold maxLen at hll
  obtain ⟨iB, iB_e, iB_z, iB_s, iB_b⟩ := iB_ex
  have iB_eq := hid iB_e
  clear iB_e
  have HR := hid hR
  clear hR
  go_enter Try.func16, Try.ntmps16
  go_wp2_with fail
  go_loopw [3, 4] (fun v i wr => ∃ (k : Nat), k ≤ 10 ∧ i = .int .i64 k ∧ w.grownBy wr none ∧ wr.ownsRow w.heap.size 5 1 v (2 * k) ((recB ll z k).map byteV)) (fun _ i _ => 10 - (intOf i).toNat)
  case atStart => exact ⟨0, by omega, rfl, gb_refl _ _, World.ownsRow_nil _ _ _ _⟩
  case round =>
    obtain ⟨k, hk, rfl, hg, hown⟩ := hrel
    have HG := hid hg
    have hz := hg.size
    by_cases hlt : k < 10
    · have hb1 := wd_lt ll z k
      have hsn : Hid (recB ll z (k + 1) = (recB ll z k ++ [(wd ll z k % 256).toUInt8]) ++ [(wd ll z k / 256).toUInt8]) := by unfold Hid; simp [recB]
      have hv1 : Hid (byteV (wd ll z k % 256).toUInt8 = .int .u8 ((wd ll z k : Int) % 256)) := by
        unfold Hid byteV; rw [u8_of _ (by omega)]; simp
      have hv2 : Hid (byteV (wd ll z k / 256).toUInt8 = .int .u8 ((wd ll z k : Int) / 256)) := by
        unfold Hid byteV; rw [u8_of _ (by omega)]; simp
      by_cases hkl : k < ll
      · obtain ⟨b, off, rfl, hb, hcz, z0, z1⟩ := (HR.out.keep hg (Nat.le_refl _) (fun _ h => by cases h)) k hkl
        have hw : (wd ll z k : Int) = pk (z k) 65536 := by
          have := pk_range (z k) 65536 (by omega)
          unfold wd; rw [if_pos hkl]; omega
        have Hw := hid hw
        have hP := fun w => pick_any w (z k) 65536 z0 z1 (by omega) (by omega)
        rw [← hw] at hP
        clear hw hg
        have hW0 : (0 : Int) ≤ (wd ll z k : Int) := by omega
        have hW1 : (wd ll z k : Int) ≤ 65535 := by omega
        have e1 := wrap_u8 ((wd ll z k : Int) % 256) (by omega) (by omega)
        have e2 := wrap_u8 ((wd ll z k : Int) / 256) (by omega) (by omega)
        clear hb1
        generalize (wd ll z k : Int) = V at *
        generalize z k = zz at *
        go_wp2_with fail
        refine (hP _).mono ?_
        rintro e w1 ⟨rfl, hw⟩
        subst hw
        clear hP
        go_wp2_with (first
          | (at_builtin; refine wpList_append_own _ rfl _ _ 62 rfl w.heap.size 5 iB (.int .u8 0) 1 1 u38 iB_eq.out iB_z iB_s iB_b rfl (by decide) u3 (2 * k) ((recB ll z k).map byteV) rfl (hown.alloc _) ⟨w1.heap.size, 0, none⟩ 1 1 [.int .u8 (V % 256)] rfl rfl ?c1 ?c2 ?c3 ?c4 ?c5 ?_)
          | fail)
        case c1 => exact new_cells _ 5 #[.int .u8 (V % 256)] _ rfl
        case c2 => intro u hu; simp at hu; subst hu; rfl
        case c3 => unfold maxLen; omega
        case c4 => omega
        case c5 => simp; omega
        intro v1 w2 hown1 hgrow1 _
        have hz2 := hgrow1.size
        simp at hz2
        have hlt1 := hown.lt
        have Hg2 := hid (gb_grow (gb_alloc HG.out (.cells #[.int .u8 (V % 256)] 5)) hgrow1 (fun j hj => (hlt1 j hj).1))
        clear hgrow1 hlt1 hown
        go_wp2_with (first
          | (at_builtin; refine wpList_append_own _ rfl _ _ 62 rfl w.heap.size 5 iB (.int .u8 0) 1 1 u38 iB_eq.out iB_z iB_s iB_b rfl (by decide) v1 (2 * k + 1) ((recB ll z k).map byteV ++ [.int .u8 (V % 256)]) rfl (hown1.alloc _) ⟨w2.heap.size, 0, none⟩ 1 1 [.int .u8 (V / 256)] rfl rfl ?c1 ?c2 ?c3 ?c4 ?c5 ?_)
          | fail)
        case c1 => exact new_cells _ 5 #[.int .u8 (V / 256)] _ rfl
        case c2 => intro u hu; simp at hu; subst hu; rfl
        case c3 => unfold maxLen; omega
        case c4 => omega
        case c5 => simp; omega
        intro v2 w3 hown2 hgrow2 _
        have hlt2 := hown1.lt
        have Hg3 := hid (gb_grow (gb_alloc Hg2.out (.cells #[.int .u8 (V / 256)] 5)) hgrow2 (fun j hj => (hlt2 j hj).1))
        clear hgrow2 hlt2 hown1
        have Ho2 := hid hown2
        clear hown2
        go_wp2_with fail
        go_roundw
        case rel =>
          refine ⟨k + 1, by omega, by go_num, Hg3.out, ?_⟩
          rw [hsn.out, List.map_append, List.map_append]
          have := Ho2.out
          simp only [List.map_cons, List.map_nil]
          rw [hv1.out, hv2.out, List.append_assoc]
          exact this
        case measure => simp [intOf]; omega
      · have hw : (wd ll z k : Int) = 0 := by unfold wd; rw [if_neg hkl]; rfl
        replace hv1 : Hid (byteV (wd ll z k % 256).toUInt8 = .int .u8 0) := by have h := hv1.out; rw [hw] at h; exact h
        replace hv2 : Hid (byteV (wd ll z k / 256).toUInt8 = .int .u8 0) := by have h := hv2.out; rw [hw] at h; exact h
        have hge : ll ≤ k := by omega
        clear hb1 hg hw
        go_wp2_with (first
          | (at_builtin; refine wpList_append_own _ rfl _ _ 62 rfl w.heap.size 5 iB (.int .u8 0) 1 1 u38 iB_eq.out iB_z iB_s iB_b rfl (by decide) u3 (2 * k) ((recB ll z k).map byteV) rfl (hown.alloc _) ⟨wr.heap.size, 0, none⟩ 1 1 [.int .u8 (0)] rfl rfl ?c1 ?c2 ?c3 ?c4 ?c5 ?_)
          | fail)
        case c1 => exact new_cells _ 5 #[.int .u8 (0)] _ rfl
        case c2 => intro u hu; simp at hu; subst hu; rfl
        case c3 => unfold maxLen; omega
        case c4 => omega
        case c5 => simp; omega
        intro v1 w2 hown1 hgrow1 _
        have hz2 := hgrow1.size
        simp at hz2
        have hlt1 := hown.lt
        have Hg2 := hid (gb_grow (gb_alloc HG.out (.cells #[.int .u8 (0)] 5)) hgrow1 (fun j hj => (hlt1 j hj).1))
        clear hgrow1 hlt1 hown
        go_wp2_with (first
          | (at_builtin; refine wpList_append_own _ rfl _ _ 62 rfl w.heap.size 5 iB (.int .u8 0) 1 1 u38 iB_eq.out iB_z iB_s iB_b rfl (by decide) v1 (2 * k + 1) ((recB ll z k).map byteV ++ [.int .u8 (0)]) rfl (hown1.alloc _) ⟨w2.heap.size, 0, none⟩ 1 1 [.int .u8 (0)] rfl rfl ?c1 ?c2 ?c3 ?c4 ?c5 ?_)
          | fail)
        case c1 => exact new_cells _ 5 #[.int .u8 (0)] _ rfl
        case c2 => intro u hu; simp at hu; subst hu; rfl
        case c3 => unfold maxLen; omega
        case c4 => omega
        case c5 => simp; omega
        intro v2 w3 hown2 hgrow2 _
        have hlt2 := hown1.lt
        have Hg3 := hid (gb_grow (gb_alloc Hg2.out (.cells #[.int .u8 (0)] 5)) hgrow2 (fun j hj => (hlt2 j hj).1))
        clear hgrow2 hlt2 hown1
        have Ho2 := hid hown2
        clear hown2
        go_wp2_with fail
        go_roundw
        case rel =>
          refine ⟨k + 1, by omega, by go_num, Hg3.out, ?_⟩
          rw [hsn.out, List.map_append, List.map_append]
          have := Ho2.out
          simp only [List.map_cons, List.map_nil]
          rw [hv1.out, hv2.out, List.append_assoc]
          exact this
        case measure => simp [intOf]; omega
    · have hk10 : k = 10 := by omega
      subst hk10
      obtain ⟨sa, sc, rfl⟩ := owns_slice hown
      have hcv : (convert 62 9 (.slice sa (2 * 10) sc)).run Try.prog wr = .ok (.string ⟨(recB ll z 10).toArray⟩) wr := by
        rcases hown.2 with ⟨h1, h2⟩ | ⟨g, cap, cur, h1, h2, h3, h4, h5, h6, h7⟩
        · omega
        · simp only [Value.slice.injEq] at h1
          obtain ⟨rfl, _, rfl⟩ := h1
          have hl : (recB ll z 10).length = 2 * 10 := recB_len ll z 10
          have := run_convert_bytes_back (P := Try.prog) wr 62 9 5 ⟨g, 0, none⟩ sc (recB ll z 10) Try.underlying62 Try.underlying5 Try.underlying9 (by
            intro j hj
            have e : (Addr.add ⟨g, 0, none⟩ j) = ⟨g, j, none⟩ := by
              unfold Addr.add
              split
              · next h0 => subst h0; rfl
              · simp
            rw [e]
            have e1 : wr.cell? ⟨g, j, none⟩ = cur[j]? := by simp [World.cell?, h3]
            have e2 : (cur.toList.take (2 * 10 * 1))[j]? = cur.toList[j]? := List.getElem?_take_of_lt (by omega)
            have e3 : ((recB ll z 10).map byteV)[j]? = some (byteV (recB ll z 10)[j]) := by simp [hj]
            rw [e1, ← Array.getElem?_toList, ← e2, h7, e3]
            rfl)
          rw [hl] at this
          exact this
      have HG2 := hid HG.out
      clear hown hg
      go_wp2_with fail
      go_ret
      exact ⟨rfl, HG2.out⟩
end Go.Proofs.Ytldongbimhngfaa
