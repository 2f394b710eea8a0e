/- The document's Encode and Decode: their walks. -/
import Derived.Test.YtpamlgdopmjooaaGreatRf3
import Derived.Test.YtpamlgdopmjooaaGreatMc1
namespace Go.Proofs.YtpamlgdopmjooaaGreat
open Go.RowKit
set_option linter.unusedVariables false
set_option linter.unusedSimpArgs false

/-- append onto a row of one's own, as one step of a region that draws -/
theorem step_append_own {P : Program} {ops : Array Oper} {o : Oper} {a : Act} {w : World} {K : Act → World → Prop} {Q : Exit → Act → World → Prop} {E : Prop}
    (hg : o.guard = none) (s x : Operand) (t : TypeId) (hop : o.op = Op.call { callee := Callee.builtin Builtin.append, args := #[s, x], argTypes := #[t, t] })
    (base : Nat) (e : TypeId) (i : TypeInfo) (z : Value) (size bytes : Nat) (h1 : P.underlying t = some (.slice e)) (h2 : P.info? e = some i) (h3 : i.zero = some z) (h4 : i.size = size) (h5 : i.bytes = bytes) (h6 : z.cells.size = size) (h7 : 0 < size)
    (v : Value) (n : Nat) (xs : List Value) (hs : a.eval s = v) (hown : w.ownsRow base e size v n xs)
    (ad : Addr) (m c : Nat) (news : List Value) (hx : a.eval x = .slice (some ad) m c) (hn : news.length = m * size) (hc : ∀ j u, news[j]? = some u → w.cell? (ad.add j) = some u) (h1c : ∀ u ∈ news, u.oneCell' = true)
    (b1 : n + m ≤ maxLen) (b2 : (n + m) * bytes ≤ 140737488355328) (hbase : base ≤ w.heap.size)
    (hK : ∀ v' w', w'.ownsRow base e size v' (n + m) (xs ++ news) → w.grownBy w' v.ownBlock → K (a.put o.dst v') w') :
    if Region.wanted o (yielded ops a.tmps) = true then Oper.wp P o a w K Q else E := by
  have hw : Region.wanted o (yielded ops a.tmps) = true := by simp [Region.wanted, hg]
  rw [if_pos hw]
  obtain ⟨v', w', hrun, r1, r2, _⟩ := run_append_own (P := P) w base t o.type e i z size bytes h1 h2 h3 h4 h5 h6 h7 v n xs hown ad m c news hn hc h1c b1 b2 hbase
  unfold Oper.wp
  simp [execOp, hop, resolve, invoke, builtin, hs, hx, hrun, Result.andThen]
  exact hK v' w' r1 r2

set_option maxRecDepth 100000 in
set_option maxHeartbeats 1000000 in
theorem bytesG_any (w : World) (r : ByteArray) (a n : Int) (h0 : 0 ≤ a) (hn0 : 0 ≤ n) (hn : n ≤ 4) (h : a + n ≤ r.size) (hs : r.size ≤ 1000000) :
    Calls Tryz.prog 53 #[.string r, .int .i64 a, .int .i64 n] w fun e w' => e = .returned (.int .i64 (bN r a.toNat n.toNat n.toNat)) ∧ w' = w := by
  obtain ⟨p, rfl⟩ := Int.eq_ofNat_of_zero_le h0
  obtain ⟨m, rfl⟩ := Int.eq_ofNat_of_zero_le hn0
  rw [Int.toNat_natCast, Int.toNat_natCast]
  go_enter Tryz.func53, Tryz.ntmps53
  go_wp2_with fail
  go_loop [7, 8] (fun v i => ∃ k : Nat, k ≤ m ∧ i = .int .i64 ((m : Int) - 1 - k) ∧ v = .int .i64 (bN r p m k)) (fun _ i => (intOf i + 1).toNat)
  case atStart => exact ⟨0, Nat.zero_le _, by simp, rfl⟩
  case round =>
    obtain ⟨k, hk, rfl, rfl⟩ := hrel
    have hb := bN_bd r p m k (by omega) hk (by omega)
    have hp2 := pow256 k (by omega)
    have hb1 := hb.1
    have hb2 : bN r p m k ≤ 4294967296 := by omega
    have hst : Hid (bN r p m (k + 1) = 256 * bN r p m k + Sv.byteAt r (p + (m - 1 - k))) := rfl
    clear hb hp2
    by_cases hlt : k < m
    · have hpk : p + (m - 1 - k) < r.size := by omega
      have hd : decide ((0 : Int) ≤ (m : Int) - 1 - (k : Int)) = true := by simp; omega
      have e1 : (0 : Int) ≤ (m : Int) - 1 - (k : Int) := by omega
      have e2 : (p : Int) + ((m : Int) - 1 - (k : Int)) < (r.size : Int) := by omega
      have e3 : (0 : Int) ≤ (p : Int) + ((m : Int) - 1 - (k : Int)) := by omega
      have e4 : ((p : Int) + ((m : Int) - 1 - (k : Int))).toNat = p + (m - 1 - k) := by omega
      have hB : Hid (Sv.byteAt r (p + (m - 1 - k)) = (r[p + (m - 1 - k)].toNat : Int)) := byteAt_in hpk
      have hu := r[p + (m - 1 - k)].toNat_lt
      have hwb := wrap_byte r[p + (m - 1 - k)]
      generalize bN r p m k = x at *
      go_wp2_with fail
      go_round
      case rel => exact ⟨k + 1, by omega, by simp; omega, by rw [hst.out, hB.out]⟩
      case measure => simp [intOf]; omega
    · have hkm : k = m := by omega
      subst hkm
      have hd : decide ((0 : Int) ≤ (k : Int) - 1 - (k : Int)) = false := by simp; omega
      clear hst
      go_wp2_with fail
      go_ret
      exact ⟨rfl, rfl⟩

theorem notEmpty (D : ByteArray) (h : 0 < D.size) : D.toList.isEmpty = false := by
  obtain ⟨⟨l⟩⟩ := D
  match l, h with
  | e :: K, _ =>
    have : (ByteArray.mk (Array.mk (e :: K))).toList = e :: K := ByteArray.toList_mk (e :: K)
    rw [this]; rfl
def strLen : Value → Nat
  | .string s => s.size
  | _ => 0
/-- what is left of a code behind k instructions -/
def Left (c D : ByteArray) (k : Nat) : Prop := 5 * k ≤ c.size ∧ D.size = c.size - 5 * k ∧ ∀ j, Sv.byteAt D j = Sv.byteAt c (5 * k + j)
theorem Left.next {c D : ByteArray} {k : Nat} (h : Left c D k) (h5 : 5 ≤ D.size) : Left c (D.extract 5 D.size) (k + 1) := by
  obtain ⟨h1, h2, h3⟩ := h
  have hsz : (D.extract 5 D.size).size = D.size - 5 := by simp [ByteArray.size_extract]
  refine ⟨by omega, by rw [hsz]; omega, fun j => ?_⟩
  have e : 5 * (k + 1) + j = 5 * k + (5 + j) := by omega
  rw [e, ← h3]
  by_cases hj : j < D.size - 5
  · rw [byteAt_in (by rw [hsz]; exact hj), byteAt_in (by omega)]
    simp [ByteArray.getElem_extract]
  · rw [Sv.byteAt_out (by rw [hsz]; omega), Sv.byteAt_out (by omega)]

set_option maxRecDepth 100000 in
set_option maxHeartbeats 2000000 in
theorem refDecode_any (w : World) (c : ByteArray) (hc : c.size ≤ maxLen) :
    Calls Tryz.prog 33 #[.string c] w fun e w' => ∃ v, e = .returned (.tuple #[v, .int .i64 (Sc.decE c)]) ∧ w.grownBy w' none ∧ w'.ownsRow w.heap.size 35 4 v (Sc.decL c).length (insCells (Sc.decL c)) := by
  unfold maxLen at hc
  by_cases hl : 5120 < c.size
  · have hE : Hid (Sc.decE c = 1 ∧ Sc.decL c = []) := by
      have h1 : Sc.decE c = 1 := by unfold Sc.decE; rw [if_pos hl]
      exact ⟨h1, by unfold Sc.decL; rw [h1]; rfl⟩
    go_enter Tryz.func33, Tryz.ntmps33
    go_wp2_with fail
    go_ret2
    rw [hE.out.1, hE.out.2]
    exact ⟨_, rfl, gb_refl _ _, World.ownsRow_nil _ _ _ _⟩
  · have hs : c.size ≤ 5120 := by omega
    obtain ⟨iI, iI_e, iI_z, iI_s, iI_b⟩ := iIn_ex
    have iI_eq := hid iI_e
    clear iI_e hc hl
    go_enter Tryz.func33, Tryz.ntmps33
    go_wp2_with fail
    go_loopw [0, 4] (fun d v wr => ∃ (k : Nat) (D : ByteArray), d = .string D ∧ Left c D k ∧ D.size ≤ 5120 ∧ k ≤ 1024 ∧ w.grownBy wr none ∧ wr.ownsRow w.heap.size 35 4 v k (insCells (Sc.ins c k))) (fun d _ _ => strLen d)
    case atStart => exact ⟨0, c, rfl, ⟨by omega, by omega, fun j => by simp⟩, hs, by omega, gb_refl _ _, World.ownsRow_nil _ _ _ _⟩
    case round =>
      obtain ⟨k, D, rfl, hL, hD, hk, hg, hown⟩ := hrel
      have HG := hid hg
      have HL := hid hL
      have hz := hg.size
      by_cases h5 : 5 ≤ D.size
      · have hb := hid (bytesG_any wr D 3 2 (by omega) (by omega) (by omega) (by omega) (by omega))
        have hbv : bN D (3 : Int).toNat (2 : Int).toNat (2 : Int).toNat = Sv.byteAt D 3 + 256 * Sv.byteAt D 4 := by
          show bN D 3 2 2 = _
          simp [bN]; omega
        rw [hbv] at hb
        have B0 : ((D[0]'(by omega)).toNat : Int) = Sv.byteAt D 0 := (byteAt_in (by omega)).symm
        have B1 : ((D[1]'(by omega)).toNat : Int) = Sv.byteAt D 1 := (byteAt_in (by omega)).symm
        have B2 : ((D[2]'(by omega)).toNat : Int) = Sv.byteAt D 2 := (byteAt_in (by omega)).symm
        have hin : Hid (Sc.inAt c k = ⟨Sv.byteAt D 0, Sv.byteAt D 1, Sv.byteAt D 2, Sv.byteAt D 3 + 256 * Sv.byteAt D 4⟩) := by
          unfold Hid Sc.inAt; rw [hL.2.2, hL.2.2, hL.2.2, hL.2.2, hL.2.2]; rfl
        have r0 := byte_rng (c := D) (i := 0) (by omega)
        have r1 := byte_rng (c := D) (i := 1) (by omega)
        have r2 := byte_rng (c := D) (i := 2) (by omega)
        have v0 : IntKind.i64.wrap (Sv.byteAt D 0) = Sv.byteAt D 0 := IntWalk.i64_in _ ⟨by omega, by omega⟩
        have v1 : IntKind.i64.wrap (Sv.byteAt D 1) = Sv.byteAt D 1 := IntWalk.i64_in _ ⟨by omega, by omega⟩
        have v2 : IntKind.i64.wrap (Sv.byteAt D 2) = Sv.byteAt D 2 := IntWalk.i64_in _ ⟨by omega, by omega⟩
        clear r0 r1 r2
        have j0 : (0 : Int) < (D.size : Int) := by omega
        have j1 : (1 : Int) < (D.size : Int) := by omega
        have j2 : (2 : Int) < (D.size : Int) := by omega
        have i0 : 0 < D.size := by omega
        have i1 : 1 < D.size := by omega
        have i2 : 2 < D.size := by omega
        clear hL hg hbv
        generalize Sv.byteAt D 3 + 256 * Sv.byteAt D 4 = kk at *
        go_wp2_with fail
        refine hb.out.mono ?_
        rintro e w1 ⟨rfl, hw⟩
        subst hw
        clear hb
        go_wp2_with fail
        have hlt1 := hown.lt
        go_region_law (refine step_append_own rfl (.tmp 14) (.tmp 26) 29 rfl w.heap.size 35 iI zIn 4 32 uIn iI_eq.out iI_z iI_s iI_b rfl (by decide) u4 k (insCells (Sc.ins c k)) (by simp [Act.eval, Act.put]) (by exact hown.alloc _) ⟨w1.heap.size, 0, none⟩ 1 1 [.int .i64 (Sv.byteAt D 0), .int .i64 (Sv.byteAt D 1), .int .i64 (Sv.byteAt D 2), .int .i64 kk] (by simp [Act.eval, Act.put]) rfl (by exact new_cells w1 35 #[.int .i64 (Sv.byteAt D 0), .int .i64 (Sv.byteAt D 1), .int .i64 (Sv.byteAt D 2), .int .i64 kk] _ rfl) (by intro u hu; simp at hu; rcases hu with rfl | rfl | rfl | rfl <;> rfl) (by unfold maxLen; omega) (by omega) (by simp; omega) ?_; intro v' w' hown' hgrow')
        all_goals
          have Ho := hid hown'
          have Hg := hid (gb_grow (gb_drew (gb_alloc HG.out _)) hgrow' (fun j hj => (hlt1 j hj).1))
          clear hown' hgrow' hown hlt1 v0 v1 v2
          go_wp2_with fail
          go_roundw
          case rel =>
            refine ⟨k + 1, D.extract 5 D.size, rfl, HL.out.next h5, by simp; omega, ?_, Hg.out, ?_⟩
            · have := HL.out; unfold Left at this; omega
            · have e : insCells (Sc.ins c (k + 1)) = insCells (Sc.ins c k) ++ [.int .i64 (Sv.byteAt D 0), .int .i64 (Sv.byteAt D 1), .int .i64 (Sv.byteAt D 2), .int .i64 kk] := by
                show insCells (Sc.ins c k ++ [Sc.inAt c k]) = _
                rw [insCells_snoc, hin.out]; rfl
              rw [e]
              exact Ho.out
          case measure => simp [strLen]; omega
      · have hsz : D.size = c.size - 5 * k := hL.2.1
        have h5k : 5 * k ≤ c.size := hL.1
        by_cases h0 : D.size = 0
        · have hD0 : D = ByteArray.empty := by
            cases D with | mk d => simp only [ByteArray.size] at h0; have : d = #[] := Array.eq_empty_of_size_eq_zero h0; subst this; rfl
          have hE : Hid (Sc.decE c = 0) := by unfold Hid Sc.decE; rw [if_neg (by omega), if_pos (by omega)]
          have hL2 : Hid (Sc.decL c = Sc.ins c k) := by
            unfold Hid Sc.decL; rw [if_pos hE.out]; congr 1; omega
          subst hD0
          have Ho := hid hown
          clear hown hL hg h0 hsz h5k
          go_wp2_with fail
          go_ret2
          rw [hE.out, hL2.out, ins_len]
          exact ⟨_, rfl, HG.out, Ho.out⟩
        · have hE : Hid (Sc.decE c = 3) := by unfold Hid Sc.decE; rw [if_neg (by omega), if_neg (by omega)]
          have hL2 : Hid (Sc.decL c = []) := by unfold Hid Sc.decL; rw [hE.out]; rfl
          have hne := notEmpty D (by omega)
          clear hown hL hg
          go_wp2_with fail
          go_ret2
          rw [hE.out, hL2.out]
          exact ⟨_, rfl, HG.out, World.ownsRow_nil _ _ _ _⟩
end Go.Proofs.YtpamlgdopmjooaaGreat
