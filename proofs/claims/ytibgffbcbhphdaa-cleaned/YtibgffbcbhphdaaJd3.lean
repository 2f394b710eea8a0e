import Derived.Test.YtibgffbcbhphdaaJd2
namespace Go.Proofs.Ytibgffbcbhphdaa
open Go.RowKit
set_option linter.unusedVariables false
set_option linter.unusedSimpArgs false

set_option maxRecDepth 100000 in
set_option maxHeartbeats 1000000 in
theorem holds_any (w : World) (ts : List Sv.Tm) (hts : ∀ x ∈ ts, Sv.TmOk x) (hlen : ts.length ≤ 601) (r : ByteArray) (hr : r.size = 20) (base : Nat) (sa : Option Addr) (sc : Nat)
    (hown : w.ownsRow base 117 7 (.slice sa ts.length sc) ts.length (tmsCells ts)) :
    Calls Try.prog 55 #[.slice sa ts.length sc, .string r] w fun e w' => e = .returned (.bool (Sv.holds r ts)) ∧ w.grownBy w' none := by
  have hW : WkAt (w.alloc (.cells #[.slice sa ts.length sc, .string r, .int .i64 0] 103)) w.heap.size (.slice sa ts.length sc) r 0 := Blk.new w _ _
  have hN := next_any ts hts hlen r hr base w.heap.size sa sc ts.length 0 _ (by omega) (by omega) hW (hown.alloc _)
  have hv : Hid (Sv.holds r ts = Sv.hd (Sv.ev r (ts.drop 0))) := rfl
  clear hW hown hts
  go_enter Try.func55, Try.ntmps55
  go_wp2_with fail
  refine hN.mono ?_
  rintro e w1 ⟨k', h1, h2, rfl, hE, hW1, hg⟩
  clear hN
  go_wp2_with fail
  go_ret
  rw [hv.out]
  exact ⟨rfl, gb_none (gb_unalloc hg) (Nat.le_refl _)⟩

theorem rlCells_get (L : List Rl) (k : Nat) (hk : k < L.length) : (rlCells L)[k * 2]? = some L[k].v ∧ (rlCells L)[k * 2 + 1]? = some (.int .i64 L[k].k) := by
  induction L generalizing k with
  | nil => simp at hk
  | cons x r ih =>
    have e : rlCells (x :: r) = [x.v, .int .i64 x.k] ++ rlCells r := by simp [rlCells]
    rw [e]
    cases k with
    | zero => simp
    | succ k =>
      have h := ih k (by simpa using hk)
      rw [List.getElem?_append_right (by simp; omega), List.getElem?_append_right (by simp; omega)]
      have e1 : (k + 1) * 2 - [x.v, Value.int .i64 x.k].length = k * 2 := by simp; omega
      have e2 : (k + 1) * 2 + 1 - [x.v, Value.int .i64 x.k].length = k * 2 + 1 := by simp; omega
      rw [e1, e2]
      simpa using h

theorem owns_rl {w : World} {base : Nat} {pa : Option Addr} {pc n : Nat} {L : List Rl} (h : w.ownsRow base 92 2 (.slice pa n pc) L.length (rlCells L)) (k : Nat) (hk : k < L.length) :
    ∃ g, pa = some ⟨g, 0, none⟩ ∧ g < w.heap.size ∧ w.cell? ⟨g, k * 2, none⟩ = some L[k].v ∧ w.cell? ⟨g, k * 2 + 1, none⟩ = some (.int .i64 L[k].k) := by
  rcases h.2 with ⟨h1, h2⟩ | ⟨g, cap, cur, h1, h2, h3, h4, h5, h6, h7⟩
  · omega
  · simp only [Value.slice.injEq] at h1
    have hg := rlCells_get L k hk
    have e2 : ∀ j, j < L.length * 2 → (cur.toList.take (L.length * 2))[j]? = cur.toList[j]? := fun j hj => List.getElem?_take_of_lt hj
    refine ⟨g, h1.1, (Array.getElem?_eq_some_iff.1 h3).1, ?_, ?_⟩
    · have e1 : w.cell? ⟨g, k * 2, none⟩ = cur[k * 2]? := by simp [World.cell?, h3]
      rw [e1, ← hg.1, ← h7, e2 _ (by omega)]; simp
    · have e1 : w.cell? ⟨g, k * 2 + 1, none⟩ = cur[k * 2 + 1]? := by simp [World.cell?, h3]
      rw [e1, ← hg.2, ← h7, e2 _ (by omega)]; simp

set_option maxRecDepth 100000 in
set_option maxHeartbeats 1000000 in
theorem verdict_any (w : World) (pb : Nat) (L : List Rl) (d : Int) (hok : ∀ x ∈ L, x.ts.length ≤ 601 ∧ ∀ y ∈ x.ts, Sv.TmOk y) (hlen : L.length ≤ 601) (r : ByteArray) (hr : r.size = 20) (base : Nat) (pa : Option Addr) (pc : Nat)
    (hB : Blk w pb 75 #[.slice pa L.length pc, .int .i64 d])
    (hown : w.ownsRow base 92 2 (.slice pa L.length pc) L.length (rlCells L)) (hall : AllTerms w base L) :
    Calls Try.prog 47 #[.pointer (some ⟨pb, 0, none⟩), .string r] w fun e w' => e = .returned (.int .i64 (Sv.verdict r d (L.map fun x => (x.ts, x.k)))) ∧ w.grownBy w' none := by
  have hn : ∀ v : Value, v.ownBlock = none ∨ v.ownBlock ≠ none := fun v => by cases v.ownBlock <;> simp
  have HB := hid hB
  have Ho := hid hown
  have Ha := hid hall
  have Hn := hid hn
  clear hB hown hall hn
  go_enter Try.func47, Try.ntmps47
  go_wp2_with fail
  go_loopw [5] (fun i wr => ∃ k : Nat, k ≤ L.length ∧ i = .int .i64 k ∧ w.grownBy wr none ∧ Hid (Sv.verdict r d (L.map fun x => (x.ts, x.k)) = Sv.verdict r d ((L.drop k).map fun x => (x.ts, x.k)))) (fun i _ => L.length - (intOf i).toNat)
  case atStart => exact ⟨0, Nat.zero_le _, rfl, gb_refl _ _, rfl⟩
  case round =>
    obtain ⟨k, hk, rfl, hg, hV⟩ := hrel
    have B1 := HB.out.keep hg (by simp)
    have c0 := B1.cell 0
    have c1 := B1.cell 1
    simp at c0 c1
    by_cases hlt : k < L.length
    · have ho1 := Ho.out.kept hg (Hn.out _)
      obtain ⟨g, rfl, hgl, t0, t1⟩ := owns_rl ho1 k hlt
      have hE : Hid ((L.drop k).map (fun x => (x.ts, x.k)) = (L[k].ts, L[k].k) :: (L.drop (k + 1)).map (fun x => (x.ts, x.k))) := by unfold Hid; rw [List.drop_eq_getElem_cons hlt]; rfl
      have hmem := List.getElem_mem hlt
      have hokk := hok _ hmem
      have haL := (Ha.out _ hmem).kept hg (Hn.out _)
      generalize L[k] = X at *
      obtain ⟨v, ts, kk⟩ := X
      simp only at t0 t1 hokk haL
      obtain ⟨sa, sc, rfl⟩ := owns_slice haL
      have Hal := hid haL
      have Ho1 := hid ho1
      have HE := hE
      clear haL ho1 hmem
      go_wp2_with fail
      refine (holds_any _ ts hokk.2 hokk.1 r hr base sa sc Hal.out).mono ?_
      rintro e w1 ⟨rfl, hg1⟩
      have B2 := B1.keep hg1 (by simp)
      have d0 := B2.cell 0
      simp at d0
      have t1' := (World.cell?_of_block (a := ⟨g, k * 2 + 1, none⟩) (hg1.block g hgl (by simp))).trans t1
      have hcase : Hid (Sv.verdict r d ((L.drop k).map fun x => (x.ts, x.k)) = if Sv.holds r ts = true then kk else Sv.verdict r d ((L.drop (k + 1)).map fun x => (x.ts, x.k))) := by
        unfold Hid; rw [HE.out]; rfl
      clear t0 t1 c0 c1 HE hE
      cases hh : Sv.holds r ts
      · have hcase2 : Hid (Sv.verdict r d ((L.drop k).map fun x => (x.ts, x.k)) = Sv.verdict r d ((L.drop (k + 1)).map fun x => (x.ts, x.k))) := by
          unfold Hid; rw [hcase.out, hh]; rfl
        clear hcase hh
        go_wp2_with fail
        go_roundw
        case rel => exact ⟨k + 1, by omega, by go_num, gb_trans hg hg1, by unfold Hid; rw [hV.out, hcase2.out]⟩
        case measure => simp [intOf]; omega
      · have hcase2 : Hid (Sv.verdict r d ((L.drop k).map fun x => (x.ts, x.k)) = kk) := by
          unfold Hid; rw [hcase.out, hh]; rfl
        clear hcase hh
        go_wp2_with fail
        go_ret
        rw [hV.out, hcase2.out]
        exact ⟨rfl, gb_trans hg hg1⟩
    · have hkl : k = L.length := by omega
      have hE : Hid (Sv.verdict r d ((L.drop k).map fun x => (x.ts, x.k)) = d) := by unfold Hid; rw [hkl]; simp [Sv.verdict]
      have hge : L.length ≤ k := by omega
      clear hkl
      go_wp2_with fail
      go_ret
      rw [hV.out, hE.out]
      exact ⟨rfl, hg⟩
end Go.Proofs.Ytibgffbcbhphdaa
