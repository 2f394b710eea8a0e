/- Blind: words that are not loaded. -/
import Derived.Test.YtldongbimhngfaaKc6
namespace Go.Proofs.Ytldongbimhngfaa
open Go.RowKit
set_option linter.unusedVariables false
set_option linter.unusedSimpArgs false

/-- does the list load the word k? -/
def loadsB (l : List Sc.In) (k : Int) : Bool := l.any fun x => decide (x.op = 1) && decide (x.k = k)
theorem stepM_same (r q : ByteArray) (x : Sc.In) (m : Sc.Mc) (h : x.op = 1 → Sv.wordAt r x.k = Sv.wordAt q x.k) : Sc.stepM r x m = Sc.stepM q x m := by
  unfold Sc.stepM
  split
  · next h1 => rw [h h1]
  · rfl
theorem runN_same (r q : ByteArray) : ∀ (g : Nat) (l : List Sc.In) (m : Sc.Mc) (s : Int), (∀ x ∈ l, x.op = 1 → Sv.wordAt r x.k = Sv.wordAt q x.k) → Sc.runN r g l m s = Sc.runN q g l m s := by
  intro g
  induction g with
  | zero => intro l m s h; rfl
  | succ g ih =>
    intro l m s h
    cases l with
    | nil => rfl
    | cons x rest =>
      simp only [Sc.runN]
      split
      · rfl
      · split
        · rfl
        · rw [stepM_same r q x m (h x (by simp))]
          exact ih _ _ _ (fun y hy => h y (List.mem_cons_of_mem _ (List.mem_of_mem_drop hy)))
theorem runL_same (r q : ByteArray) (L : List Sc.In) (h : ∀ x ∈ L, x.op = 1 → Sv.wordAt r x.k = Sv.wordAt q x.k) : Sc.runL r L = Sc.runL q L := runN_same r q _ L _ _ h

theorem recB_at (ll : Nat) (z : Nat → Int) : ∀ (n k : Nat), k < n → (recB ll z n)[2 * k]? = some (wd ll z k % 256).toUInt8 ∧ (recB ll z n)[2 * k + 1]? = some (wd ll z k / 256).toUInt8 := by
  intro n
  induction n with
  | zero => intro k h; omega
  | succ n ih =>
    intro k h
    have hl := recB_len ll z n
    by_cases q : k < n
    · have := ih k q
      simp only [recB]
      rw [List.getElem?_append_left (by omega), List.getElem?_append_left (by omega)]
      exact this
    · have : k = n := by omega
      subst this
      simp only [recB]
      rw [List.getElem?_append_right (by omega), List.getElem?_append_right (by omega), hl]
      have e1 : 2 * k - 2 * k = 0 := by omega
      have e2 : 2 * k + 1 - 2 * k = 1 := by omega
      rw [e1, e2]
      simp
theorem rec_byte (ll : Nat) (z : Nat → Int) (j : Nat) (b : UInt8) (h : (recB ll z 10)[j]? = some b) : Sv.byteAt ⟨(recB ll z 10).toArray⟩ j = (b.toNat : Int) := by
  have hs : j < (⟨(recB ll z 10).toArray⟩ : ByteArray).size := by
    have := (List.getElem?_eq_some_iff.1 h).1
    show j < (recB ll z 10).toArray.size
    rw [List.size_toArray]; exact this
  rw [byteAt_in hs]
  have e : (⟨(recB ll z 10).toArray⟩ : ByteArray)[j] = b := by
    have := (List.getElem?_eq_some_iff.1 h).2
    exact this
  rw [e]
theorem rec_word (ll : Nat) (z : Nat → Int) (k : Nat) (h : k < 10) : Sv.wordAt ⟨(recB ll z 10).toArray⟩ (2 * (k : Int)) = (wd ll z k : Int) := by
  have hb := recB_at ll z 10 k h
  have hw := wd_lt ll z k
  have e0 : (2 * (k : Int)).toNat = 2 * k := by omega
  unfold Sv.wordAt
  rw [e0, rec_byte ll z _ _ hb.1, rec_byte ll z _ _ hb.2, u8_of _ (by omega), u8_of _ (by omega)]
  omega

set_option maxRecDepth 100000 in
set_option maxHeartbeats 2000000 in
theorem loads_any (w : World) (sa : Option Addr) (sc : Nat) (L : List Sc.In) (k : Int) (hI : InsAt w sa L) (hle : L.length ≤ 1024) :
    Calls Try.prog 32 #[.slice sa L.length sc, .int .i64 k] w fun e w' => e = .returned (.bool (loadsB L k)) ∧ w' = w := by
  have HI := hid hI
  have hdef : Hid (loadsB L k = (L.drop 0).any fun x => decide (x.op = 1) && decide (x.k = k)) := rfl
  generalize loadsB L k = R at *
  clear hI
  go_enter Try.func32, Try.ntmps32
  go_wp2_with fail
  go_loop [5] (fun i => ∃ n : Nat, n ≤ L.length ∧ i = .int .i64 n ∧ Hid (R = (L.drop n).any fun x => decide (x.op = 1) && decide (x.k = k))) (fun i => L.length - (intOf i).toNat)
  case atStart => exact ⟨0, Nat.zero_le _, rfl, hdef⟩
  case round =>
    obtain ⟨n, hn, rfl, hR⟩ := hrel
    clear hdef
    by_cases hlt : n < L.length
    · obtain ⟨b, off, rfl, hb, hcell⟩ := HI.out n hlt
      have hst : Hid (R = ((decide (L[n].op = 1) && decide (L[n].k = k)) || (L.drop (n + 1)).any fun x => decide (x.op = 1) && decide (x.k = k))) := by
        unfold Hid; rw [hR.out, List.drop_eq_getElem_cons hlt]; rfl
      have t0 := hcell 0 (by omega)
      have t3 := hcell 3 (by omega)
      generalize L[n] = X at *
      obtain ⟨op, t, f, kk⟩ := X
      simp [inCells] at t0 t3
      simp only at hst
      clear hcell hR
      by_cases h1 : op = 1
      · subst h1
        by_cases h2 : kk = k
        · subst h2
          have hv : Hid (R = true) := by unfold Hid; rw [hst.out]; simp
          clear hst
          go_wp2_with fail
          go_ret
          rw [hv.out]
          exact ⟨rfl, rfl⟩
        · have e2 : (kk == k) = false := by simp [h2]
          have hv : Hid (R = (L.drop (n + 1)).any fun x => decide (x.op = 1) && decide (x.k = k)) := by unfold Hid; rw [hst.out]; simp [h2]
          clear hst h2
          go_wp2_with fail
          go_round
          case rel => exact ⟨n + 1, by omega, by go_num, hv⟩
          case measure => simp [intOf]; omega
      · have e1 : (op == 1) = false := by simp [h1]
        have hv : Hid (R = (L.drop (n + 1)).any fun x => decide (x.op = 1) && decide (x.k = k)) := by unfold Hid; rw [hst.out]; simp [h1]
        clear hst h1
        go_wp2_with fail
        go_round
        case rel => exact ⟨n + 1, by omega, by go_num, hv⟩
        case measure => simp [intOf]; omega
    · have hkn : L.length ≤ n := by omega
      have hv : Hid (R = false) := by unfold Hid; rw [hR.out, List.drop_eq_nil_of_le hkn]; rfl
      clear hR
      go_wp2_with fail
      go_ret
      rw [hv.out]
      exact ⟨rfl, rfl⟩
end Go.Proofs.Ytldongbimhngfaa
