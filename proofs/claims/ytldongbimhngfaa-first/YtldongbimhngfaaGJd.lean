import Derived.Test.YtldongbimhngfaaGRdb
import Derived.Test.YtldongbimhngfaaEv
import Derived.Deep.RegionWith
namespace Go.Proofs.Ytldongbimhngfaa
open Go.RowKit
set_option linter.unusedVariables false
set_option linter.unusedSimpArgs false

theorem byteAt_in {r : ByteArray} {k : Nat} (h : k < r.size) : Sv.byteAt r k = (r[k].toNat : Int) := by
  unfold Sv.byteAt; rw [dif_pos h]

theorem ret_int {k : IntKind} {a b : Int} (h : a = b) : Ending.returned (.int k a) = .returned (.int k b) := by rw [h]
theorem two_bytes (a b : UInt8) : wrap64 (wrap64 (a.toNat : Int) + wrap64 (256 * wrap64 (b.toNat : Int))) = (a.toNat : Int) + 256 * (b.toNat : Int) := by
  have h1 := a.toNat_lt
  have h2 := b.toNat_lt
  rw [wrap_byte, wrap_byte, IntWalk.wrap64_in (256 * (b.toNat : Int)) ⟨by omega, by omega⟩, IntWalk.wrap64_in _ ⟨by omega, by omega⟩]

set_option maxHeartbeats 1000000 in
theorem at_any (w : World) (r : ByteArray) (k : Int) (hr : r.size = 20) (h0 : 0 ≤ k) (h1 : k ≤ 18) :
    Calls Try.prog 94 #[.string r, .int .i64 k] w fun e w' => e = .returned (.int .i64 (Sv.wordAt r k)) ∧ ∃ n, w' = w.drewN n := by
  obtain ⟨n, rfl⟩ := Int.eq_ofNat_of_zero_le h0
  have hn : n < r.size := by omega
  have hn1 : n + 1 < r.size := by omega
  have hd : decide ((r.size : Int) - 1 ≤ (n : Int)) = false := by simp; omega
  have hd0 : decide ((n : Int) < 0) = false := by simp
  have hv : Hid (Sv.wordAt r (n : Int) = (r[n].toNat : Int) + 256 * (r[n+1].toNat : Int)) := by
    unfold Hid Sv.wordAt; rw [Int.toNat_natCast, byteAt_in hn, byteAt_in hn1]
  have hra : r.size ≤ 20 := by omega
  have hrb : 20 ≤ r.size := by omega
  clear hr
  have e1 : IntKind.i64.wrap ((n : Int) + 1) = ((n + 1 : Nat) : Int) := by rw [IntWalk.i64_in _ ⟨by omega, by omega⟩]; omega
  have e2 : (n : Int) + 1 < (r.size : Int) := by omega
  have e3 : (0 : Int) ≤ (n : Int) + 1 := by omega
  have e4 : ((n : Int) + 1).toNat = n + 1 := by omega
  go_enter Try.func94, Try.ntmps94
  go_wp2_with fail
  go_quiet (fail)
  go_wp2_with fail
  go_ret
  exact ⟨by rw [hv.out]; exact ret_int (two_bytes _ _), _, rfl⟩

set_option maxHeartbeats 1000000 in
theorem below_any (w : World) (a b c d : Int) :
    Calls Try.prog 110 #[.agg #[.int .i64 a, .int .i64 b], .agg #[.int .i64 c, .int .i64 d]] w fun e w' => e = .returned (.bool (Sv.lss a b c d)) ∧ w.grownBy w' none := by
  by_cases h : a = c
  · have hv : Hid (Sv.lss a b c d = decide (b < d)) := by unfold Hid Sv.lss; rw [if_pos h]
    have hne : (a != c) = false := by simp [h]
    have H := hid h
    clear h
    go_enter Try.func110, Try.ntmps110
    go_wp2_with fail
    go_ret
    rw [hv.out]
    exact ⟨rfl, gb_alloc (gb_alloc (gb_refl _ _) _) _⟩
  · have hv : Hid (Sv.lss a b c d = decide (a < c)) := by unfold Hid Sv.lss; rw [if_neg h]
    have hne : (a != c) = true := by simp [h]
    have H := hid h
    clear h
    go_enter Try.func110, Try.ntmps110
    go_wp2_with fail
    go_ret
    rw [hv.out]
    exact ⟨rfl, gb_alloc (gb_alloc (gb_refl _ _) _) _⟩

theorem wordAt_range {r : ByteArray} {k : Int} (hr : r.size = 20) (h0 : 0 ≤ k) (h1 : k ≤ 18) : 0 ≤ Sv.wordAt r k ∧ Sv.wordAt r k < 65536 := by
  unfold Sv.wordAt
  rw [byteAt_in (by omega), byteAt_in (by omega)]
  have := r[k.toNat].toNat_lt
  have := r[k.toNat + 1].toNat_lt
  omega

theorem i64_land (a b : Int) (h1 : 0 ≤ a) (h2 : a < 4294967296) (h3 : 0 ≤ b) (h4 : b < 4294967296) : bits .and .i64 a b = Sv.land a b := by
  obtain ⟨A, rfl⟩ := Int.eq_ofNat_of_zero_le h1
  obtain ⟨B, rfl⟩ := Int.eq_ofNat_of_zero_le h3
  unfold Sv.land
  rw [Int.toNat_natCast, Int.toNat_natCast]
  have hx : A &&& B < 2 ^ 32 := Nat.and_lt_two_pow _ (by omega)
  show IntKind.i64.wrap ((BitVec.ofInt 64 (A : Int) &&& BitVec.ofInt 64 (B : Int)).toNat : Int) = _
  rw [BitVec.toNat_and, ofInt_u64 A (by omega), ofInt_u64 B (by omega), IntWalk.i64_in _ ⟨by omega, by omega⟩]

set_option maxHeartbeats 1000000 in
theorem compare_any (w : World) (r : ByteArray) (x : Sv.Tm) (hr : r.size = 20) (hx : Sv.TmOk x) :
    Calls Try.prog 92 #[.agg (tmCells x), .string r] w fun e w' => e = .returned (.bool (Sv.cmp r x)) ∧ w.grownBy w' none := by
  obtain ⟨k, wd, mh, ml, rel, wh, wl⟩ := x
  obtain ⟨h1, h2, h3, h4, h5, h6⟩ := hx
  simp only at h1 h2 h3 h4 h5 h6
  have r1 := wordAt_range hr h1 (by omega : wd ≤ 18)
  have r2 := wordAt_range hr (by omega : 0 ≤ wd + 2) (by omega : wd + 2 ≤ 18)
  have b1 := i64_land (Sv.wordAt r wd) ml r1.1 (by omega) h5 (by omega)
  have b2 := i64_land (Sv.wordAt r (wd + 2)) mh r2.1 (by omega) h3 (by omega)
  clear r1 r2
  have A1 := fun w => at_any w r wd hr h1 (by omega)
  have A2 := fun w => at_any w r (wd + 2) hr (by omega) (by omega)
  simp only [tmCells]
  have hv : Hid (Sv.cmp r ⟨k, wd, mh, ml, rel, wh, wl⟩ = if rel = 1 then Sv.lss (Sv.land (Sv.wordAt r (wd + 2)) mh) (Sv.land (Sv.wordAt r wd) ml) wh wl
    else if rel = 2 then Sv.lss wh wl (Sv.land (Sv.wordAt r (wd + 2)) mh) (Sv.land (Sv.wordAt r wd) ml)
    else (decide (Sv.land (Sv.wordAt r (wd + 2)) mh = wh) && decide (Sv.land (Sv.wordAt r wd) ml = wl))) := rfl
  generalize Sv.wordAt r wd = lo at *
  generalize Sv.wordAt r (wd + 2) = hi at *
  generalize Sv.land lo ml = vl at *
  generalize Sv.land hi mh = vh at *
  clear hr
  by_cases q1 : rel = 1
  · subst q1
    replace hv : Hid (Sv.cmp r ⟨k, wd, mh, ml, 1, wh, wl⟩ = Sv.lss vh vl wh wl) := by unfold Hid; rw [hv.out, if_pos rfl]
    go_enter Try.func92, Try.ntmps92
    go_wp2_with fail
    refine (A1 _).mono ?_
    rintro e w1 ⟨rfl, n1, rfl⟩
    go_wp2_with fail
    refine (A2 _).mono ?_
    rintro e w2 ⟨rfl, n2, rfl⟩
    clear A1 A2
    go_wp2_with fail
    refine (below_any _ _ _ _ _).mono ?_
    rintro e w3 ⟨rfl, hg⟩
    go_wp2_with fail
    go_ret
    rw [hv.out]
    exact ⟨rfl, gb_trans (gb_alloc (gb_drewN (gb_alloc (gb_refl _ _) _) _) _) hg⟩
  · have e1 : (rel == 1) = false := by simp [q1]
    by_cases q2 : rel = 2
    · subst q2
      clear q1 e1
      replace hv : Hid (Sv.cmp r ⟨k, wd, mh, ml, 2, wh, wl⟩ = Sv.lss wh wl vh vl) := by unfold Hid; rw [hv.out, if_neg (by decide), if_pos rfl]
      go_enter Try.func92, Try.ntmps92
      go_wp2_with fail
      refine (A1 _).mono ?_
      rintro e w1 ⟨rfl, n1, rfl⟩
      go_wp2_with fail
      refine (A2 _).mono ?_
      rintro e w2 ⟨rfl, n2, rfl⟩
      clear A1 A2
      go_wp2_with fail
      refine (below_any _ _ _ _ _).mono ?_
      rintro e w3 ⟨rfl, hg⟩
      go_wp2_with fail
      go_ret
      rw [hv.out]
      exact ⟨rfl, gb_trans (gb_alloc (gb_drewN (gb_alloc (gb_refl _ _) _) _) _) hg⟩
    · have e2 : (rel == 2) = false := by simp [q2]
      have hv2 : Hid (Sv.cmp r ⟨k, wd, mh, ml, rel, wh, wl⟩ = (decide (vh = wh) && decide (vl = wl))) := by
        have := hv.out; rw [if_neg q1, if_neg q2] at this; exact this
      clear hv q1 q2
      by_cases q3 : vh = wh
      · have e3 : (vh == wh) = true := by simp [q3]
        have hv3 : Hid (Sv.cmp r ⟨k, wd, mh, ml, rel, wh, wl⟩ = (vl == wl)) := by
          have := hv2.out; rw [q3] at this; unfold Hid; rw [this]; simp only [decide_true, Bool.true_and]; rfl
        clear hv2 q3
        go_enter Try.func92, Try.ntmps92
        go_wp2_with fail
        refine (A1 _).mono ?_
        rintro e w1 ⟨rfl, n1, rfl⟩
        go_wp2_with fail
        refine (A2 _).mono ?_
        rintro e w2 ⟨rfl, n2, rfl⟩
        clear A1 A2
        go_wp2_with fail
        go_ret
        rw [hv3.out]
        exact ⟨rfl, gb_alloc (gb_drewN (gb_alloc (gb_refl _ _) _) _) _⟩
      · have e3 : (vh == wh) = false := by simp [q3]
        have hv3 : Hid (Sv.cmp r ⟨k, wd, mh, ml, rel, wh, wl⟩ = false) := by
          have := hv2.out; unfold Hid; rw [this]; simp [q3]
        clear hv2 q3
        go_enter Try.func92, Try.ntmps92
        go_wp2_with fail
        refine (A1 _).mono ?_
        rintro e w1 ⟨rfl, n1, rfl⟩
        go_wp2_with fail
        refine (A2 _).mono ?_
        rintro e w2 ⟨rfl, n2, rfl⟩
        clear A1 A2
        go_wp2_with fail
        go_ret
        rw [hv3.out]
        exact ⟨rfl, gb_alloc (gb_drewN (gb_alloc (gb_refl _ _) _) _) _⟩
end Go.Proofs.Ytldongbimhngfaa
namespace Go.Proofs.Ytldongbimhngfaa
open Go.RowKit
set_option linter.unusedVariables false
set_option linter.unusedSimpArgs false

theorem tmsCells_get (ts : List Sv.Tm) (k : Nat) (hk : k < ts.length) (j : Nat) (hj : j < 7) : (tmsCells ts)[k * 7 + j]? = (tmCells ts[k])[j]? := by
  induction ts generalizing k with
  | nil => simp at hk
  | cons x r ih =>
    have e : tmsCells (x :: r) = (tmCells x).toList ++ tmsCells r := by simp [tmsCells]
    have hl : (tmCells x).toList.length = 7 := by simp [tmCells]
    rw [e]
    cases k with
    | zero => rw [List.getElem?_append_left (by omega)]; simp
    | succ k =>
      rw [List.getElem?_append_right (by omega), hl]
      have : (k + 1) * 7 + j - 7 = k * 7 + j := by omega
      rw [this, ih k (by simpa using hk)]
      simp

theorem owns_tm {w : World} {base : Nat} {sa : Option Addr} {sc : Nat} {ts : List Sv.Tm} (h : w.ownsRow base 129 7 (.slice sa ts.length sc) ts.length (tmsCells ts)) (k : Nat) (hk : k < ts.length) :
    ∃ g, sa = some ⟨g, 0, none⟩ ∧ g < w.heap.size ∧ ∀ j, j < 7 → w.cell? ⟨g, k * 7 + j, none⟩ = (tmCells ts[k])[j]? := by
  rcases h.2 with ⟨h1, h2⟩ | ⟨g, cap, cur, h1, h2, h3, h4, h5, h6, h7⟩
  · omega
  · simp only [Value.slice.injEq] at h1
    refine ⟨g, h1.1, (Array.getElem?_eq_some_iff.1 h3).1, fun j hj => ?_⟩
    have e1 : w.cell? ⟨g, k * 7 + j, none⟩ = cur[k * 7 + j]? := by simp [World.cell?, h3]
    have e2 : (cur.toList.take (ts.length * 7))[k * 7 + j]? = cur.toList[k * 7 + j]? := List.getElem?_take_of_lt (by omega)
    rw [e1, ← tmsCells_get ts k hk j hj, ← h7, e2]
    simp

theorem Blk.drew {w : World} {b : Nat} {T : TypeId} {cs : Array Value} (h : Blk w b T cs) : Blk w.drew b T cs := h

/-- the block of a walk over terms -/
def WkAt (w : World) (wb : Nat) (v : Value) (r : ByteArray) (k : Nat) : Prop := Blk w wb 111 #[v, .string r, .int .i64 k]

set_option maxRecDepth 100000 in
set_option maxHeartbeats 1000000 in
theorem next_any (ts : List Sv.Tm) (hts : ∀ x ∈ ts, Sv.TmOk x) (hlen : ts.length ≤ 601) (r : ByteArray) (hr : r.size = 20) (base wb : Nat) (sa : Option Addr) (sc : Nat) (m : Nat) : ∀ (k : Nat) (w : World), ts.length - k ≤ m → k ≤ ts.length →
    WkAt w wb (.slice sa ts.length sc) r k → w.ownsRow base 129 7 (.slice sa ts.length sc) ts.length (tmsCells ts) →
    Calls Try.prog 75 #[.pointer (some ⟨wb, 0, none⟩)] w fun e w' => ∃ k', k ≤ k' ∧ k' ≤ ts.length ∧ e = .returned (.bool (Sv.hd (Sv.ev r (ts.drop k)))) ∧
      Hid (Sv.ev r (ts.drop k') = (Sv.ev r (ts.drop k)).tail) ∧ WkAt w' wb (.slice sa ts.length sc) r k' ∧ w.grownBy w' (some wb) := by
  induction m with
  | zero =>
    intro k w hm hk hW hown
    have hkl : k = ts.length := by omega
    have hE : Hid (ts.drop k = []) := by unfold Hid; rw [hkl]; simp
    have c0 := hW.cell 0
    have c2 := hW.cell 2
    simp at c0 c2
    have hd : decide ((ts.length : Int) ≤ (k : Int)) = true := by simp; omega
    have hW' := hid hW
    clear hW hkl hown
    go_enter Try.func75, Try.ntmps75
    go_wp2_with fail
    go_quiet (fail)
    go_wp2_with fail
    go_ret
    rw [hE.out]
    exact ⟨k, Nat.le_refl _, hk, rfl, by unfold Hid; rw [hE.out]; rfl, hW'.out, gb_drewN (gb_refl _ _) _⟩
  | succ m ih =>
    intro k w hm hk hW hown
    by_cases hkl : k = ts.length
    · have hE : Hid (ts.drop k = []) := by unfold Hid; rw [hkl]; simp
      have c0 := hW.cell 0
      have c2 := hW.cell 2
      simp at c0 c2
      have hd : decide ((ts.length : Int) ≤ (k : Int)) = true := by simp; omega
      have hW' := hid hW
      have hge : ts.length ≤ k := by omega
      clear hW hkl hown ih
      go_enter Try.func75, Try.ntmps75
      go_wp2_with fail
      go_quiet (fail)
      go_wp2_with fail
      go_ret
      rw [hE.out]
      exact ⟨k, Nat.le_refl _, hk, rfl, by unfold Hid; rw [hE.out]; rfl, hW'.out, gb_drewN (gb_refl _ _) _⟩
    · have hlt : k < ts.length := by omega
      have hE : Hid (ts.drop k = ts[k] :: ts.drop (k + 1)) := by unfold Hid; rw [List.drop_eq_getElem_cons hlt]
      have hok := hts ts[k] (List.getElem_mem hlt)
      obtain ⟨g, rfl, hg, hcell⟩ := owns_tm hown k hlt
      have hgw : some wb ≠ (Value.slice (some ⟨g, 0, none⟩) ts.length sc).ownBlock := owns_blk hown hW (by decide)
      have hgw' : g ≠ wb := by intro e; apply hgw; rw [e]; rfl
      generalize ts[k] = X at *
      obtain ⟨k0, k1, k2, k3, k4, k5, k6⟩ := X
      have t0 := hcell 0 (by omega)
      have t1 := hcell 1 (by omega)
      have t2 := hcell 2 (by omega)
      have t3 := hcell 3 (by omega)
      have t4 := hcell 4 (by omega)
      have t5 := hcell 5 (by omega)
      have t6 := hcell 6 (by omega)
      simp [tmCells] at t0 t1 t2 t3 t4 t5 t6
      have c0 := hW.cell 0
      have c1 := hW.cell 1
      have c2 := hW.cell 2
      have cf := hW.fz
      simp at c0 c1 c2
      have hd : decide ((ts.length : Int) ≤ (k : Int)) = false := by simp; omega
      have hwb := hW.lt
      have HI := hid ih
      have HW := hid hW
      have Ho := hid hown
      clear ih hcell hts hkl hW hown
      go_enter Try.func75, Try.ntmps75
      go_wp2_with fail
      go_quiet (fail)
      replace HW : Hid (WkAt (w.drewN nq) wb (.slice (some ⟨g, 0, none⟩) ts.length sc) r k) := HW.out
      replace Ho : Hid ((w.drewN nq).ownsRow base 129 7 (.slice (some ⟨g, 0, none⟩) ts.length sc) ts.length (tmsCells ts)) := Ho.out
      have Hg : Hid (w.grownBy (w.drewN nq) (some wb)) := gb_drewN (gb_refl _ _) _
      replace t0 := (rfl : (w.drewN nq).cell? _ = w.cell? _).trans t0
      replace t1 := (rfl : (w.drewN nq).cell? _ = w.cell? _).trans t1
      replace t2 := (rfl : (w.drewN nq).cell? _ = w.cell? _).trans t2
      replace t3 := (rfl : (w.drewN nq).cell? _ = w.cell? _).trans t3
      replace t4 := (rfl : (w.drewN nq).cell? _ = w.cell? _).trans t4
      replace t5 := (rfl : (w.drewN nq).cell? _ = w.cell? _).trans t5
      replace t6 := (rfl : (w.drewN nq).cell? _ = w.cell? _).trans t6
      replace c0 := (rfl : (w.drewN nq).cell? _ = w.cell? _).trans c0
      replace c1 := (rfl : (w.drewN nq).cell? _ = w.cell? _).trans c1
      replace c2 := (rfl : (w.drewN nq).cell? _ = w.cell? _).trans c2
      replace hwb : wb < (w.drewN nq).heap.size := hwb
      replace hg : g < (w.drewN nq).heap.size := hg
      clear cf
      generalize w.drewN nq = w1 at *
      go_wp2_with fail
      go_region
      have B1 : Blk (w1.alloc (.cells #[.int .i64 k0, .int .i64 k1, .int .i64 k2, .int .i64 k3, .int .i64 k4, .int .i64 k5, .int .i64 k6] 129)).drew w1.heap.size 129 #[.int .i64 k0, .int .i64 k1, .int .i64 k2, .int .i64 k3, .int .i64 k4, .int .i64 k5, .int .i64 k6] := Blk.new w1 _ _
      replace HW : Hid (WkAt (w1.alloc (.cells #[.int .i64 k0, .int .i64 k1, .int .i64 k2, .int .i64 k3, .int .i64 k4, .int .i64 k5, .int .i64 k6] 129)).drew wb (.slice (some ⟨g, 0, none⟩) ts.length sc) r k) := HW.out.alloc _
      replace Ho : Hid ((w1.alloc (.cells #[.int .i64 k0, .int .i64 k1, .int .i64 k2, .int .i64 k3, .int .i64 k4, .int .i64 k5, .int .i64 k6] 129)).drew.ownsRow base 129 7 (.slice (some ⟨g, 0, none⟩) ts.length sc) ts.length (tmsCells ts)) := Ho.out.alloc _
      replace Hg : Hid (w.grownBy (w1.alloc (.cells #[.int .i64 k0, .int .i64 k1, .int .i64 k2, .int .i64 k3, .int .i64 k4, .int .i64 k5, .int .i64 k6] 129)).drew (some wb)) := gb_drew (gb_alloc Hg.out _)
      have hB : w1.heap.size ≠ wb := by omega
      clear c0 c1 c2 t0 t1 t2 t3 t4 t5 t6 hwb hg
      generalize (w1.alloc (.cells #[.int .i64 k0, .int .i64 k1, .int .i64 k2, .int .i64 k3, .int .i64 k4, .int .i64 k5, .int .i64 k6] 129)).drew = w2 at *
      generalize w1.heap.size = b at *
      have c1 := HW.out.cell 1
      have c2 := HW.out.cell 2
      have cf := HW.out.fz 2
      have b0 := B1.cell 0
      have b1 := B1.cell 1
      have b2 := B1.cell 2
      have b3 := B1.cell 3
      have b4 := B1.cell 4
      have b5 := B1.cell 5
      have b6 := B1.cell 6
      simp at c1 c2 b0 b1 b2 b3 b4 b5 b6
      have hB' : wb ≠ b := fun e => hB e.symm
      have H3 : Hid (WkAt (w2.setCell ⟨wb, 2, none⟩ (.int .i64 ((k : Int) + 1))) wb (.slice (some ⟨g, 0, none⟩) ts.length sc) r (k + 1)) := by
        have := HW.out.set 2 (.int .i64 ((k : Int) + 1)); unfold Hid WkAt; simpa using this
      have O3 : Hid ((w2.setCell ⟨wb, 2, none⟩ (.int .i64 ((k : Int) + 1))).ownsRow base 129 7 (.slice (some ⟨g, 0, none⟩) ts.length sc) ts.length (tmsCells ts)) := owns_set Ho.out (fun e => hgw e.symm) _ _
      have G3 : Hid (w.grownBy (w2.setCell ⟨wb, 2, none⟩ (.int .i64 ((k : Int) + 1))) (some wb)) := gb_set Hg.out _ _
      clear HW Ho Hg
      by_cases q0 : k0 = 0
      · subst q0
        go_wp2_with fail
        go_ret
        rw [hE.out]
        exact ⟨k + 1, by omega, by omega, rfl, rfl, H3.out, G3.out⟩
      have q0' : (k0 == 0) = false := by simp [q0]
      by_cases q1 : k0 = 1
      · subst q1
        clear q0 q0'
        go_wp2_with fail
        refine (HI.out (k + 1) _ (by omega) (by omega) H3.out O3.out).mono ?_
        rintro e w4 ⟨k', hk1, hk2, rfl, hE1, H4, G4⟩
        go_wp2_with fail
        go_ret
        rw [hE.out]
        exact ⟨k', by omega, by omega, rfl, by unfold Hid; rw [hE1.out]; rfl, H4, gb_trans G3.out G4⟩
      have q1' : (k0 == 1) = false := by simp [q1]
      by_cases q2 : k0 = 2
      · subst q2
        clear q0 q0' q1 q1'
        go_wp2_with fail
        refine (HI.out (k + 1) _ (by omega) (by omega) H3.out O3.out).mono ?_
        rintro e w4 ⟨k', hk1, hk2, rfl, hE1, H4, G4⟩
        have O4 := O3.out.kept G4 (Or.inr fun e => hgw e.symm)
        go_wp2_with fail
        refine (HI.out k' _ (by omega) (by omega) H4 O4).mono ?_
        rintro e w5 ⟨k'', hk3, hk4, rfl, hE2, H5, G5⟩
        have hfin : Hid (Sv.ev r (ts.drop k) = (Sv.hd (Sv.ev r (ts.drop (k + 1))) && Sv.hd (Sv.ev r (ts.drop k'))) :: (Sv.ev r (ts.drop k')).tail) := by
          unfold Hid; rw [hE.out, hE1.out]; rfl
        generalize Sv.hd (Sv.ev r (ts.drop (k + 1))) = x1 at *
        generalize Sv.hd (Sv.ev r (ts.drop k')) = x2 at *
        cases x1
        all_goals
          go_wp2_with fail
          go_ret
          rw [hfin.out]
          exact ⟨k'', by omega, by omega, rfl, by unfold Hid; rw [hE2.out]; rfl, H5, gb_trans G3.out (gb_trans G4 G5)⟩
      have q2' : (k0 == 2) = false := by simp [q2]
      by_cases q3 : k0 = 3
      · subst q3
        clear q0 q0' q1 q1' q2 q2'
        go_wp2_with fail
        refine (HI.out (k + 1) _ (by omega) (by omega) H3.out O3.out).mono ?_
        rintro e w4 ⟨k', hk1, hk2, rfl, hE1, H4, G4⟩
        have O4 := O3.out.kept G4 (Or.inr fun e => hgw e.symm)
        go_wp2_with fail
        refine (HI.out k' _ (by omega) (by omega) H4 O4).mono ?_
        rintro e w5 ⟨k'', hk3, hk4, rfl, hE2, H5, G5⟩
        have hfin : Hid (Sv.ev r (ts.drop k) = (Sv.hd (Sv.ev r (ts.drop (k + 1))) || Sv.hd (Sv.ev r (ts.drop k'))) :: (Sv.ev r (ts.drop k')).tail) := by
          unfold Hid; rw [hE.out, hE1.out]; rfl
        generalize Sv.hd (Sv.ev r (ts.drop (k + 1))) = x1 at *
        generalize Sv.hd (Sv.ev r (ts.drop k')) = x2 at *
        cases x1
        all_goals
          go_wp2_with fail
          go_ret
          rw [hfin.out]
          exact ⟨k'', by omega, by omega, rfl, by unfold Hid; rw [hE2.out]; rfl, H5, gb_trans G3.out (gb_trans G4 G5)⟩
      have q3' : (k0 == 3) = false := by simp [q3]
      have hfin : Hid (Sv.ev r (ts.drop k) = Sv.cmp r ⟨k0, k1, k2, k3, k4, k5, k6⟩ :: Sv.ev r (ts.drop (k + 1))) := by
        unfold Hid; rw [hE.out, Sv.ev, if_neg q0, if_neg q1, if_neg q2, if_neg q3]
      have hC := fun w => compare_any w r ⟨k0, k1, k2, k3, k4, k5, k6⟩ hr hok
      simp only [tmCells] at hC
      clear q0 q1 q2 q3 HI
      go_wp2_with fail
      go_region_with (go_at_call 92; refine (hC _).mono ?_; rintro e w' ⟨rfl, hgc⟩)
      all_goals
        go_wp2_with fail
        go_ret
        rw [hfin.out]
        exact ⟨k + 1, by omega, by omega, rfl, rfl, (Blk.drew H3.out).keep hgc (by simp), gb_grow (gb_drew G3.out) hgc (by simp)⟩
end Go.Proofs.Ytldongbimhngfaa
namespace Go.Proofs.Ytldongbimhngfaa
open Go.RowKit
set_option linter.unusedVariables false
set_option linter.unusedSimpArgs false

set_option maxRecDepth 100000 in
set_option maxHeartbeats 1000000 in
theorem holds_any (w : World) (ts : List Sv.Tm) (hts : ∀ x ∈ ts, Sv.TmOk x) (hlen : ts.length ≤ 601) (r : ByteArray) (hr : r.size = 20) (base : Nat) (sa : Option Addr) (sc : Nat)
    (hown : w.ownsRow base 129 7 (.slice sa ts.length sc) ts.length (tmsCells ts)) :
    Calls Try.prog 61 #[.slice sa ts.length sc, .string r] w fun e w' => e = .returned (.bool (Sv.holds r ts)) ∧ w.grownBy w' none := by
  have hW : WkAt (w.alloc (.cells #[.slice sa ts.length sc, .string r, .int .i64 0] 111)) w.heap.size (.slice sa ts.length sc) r 0 := Blk.new w _ _
  have hN := next_any ts hts hlen r hr base w.heap.size sa sc ts.length 0 _ (by omega) (by omega) hW (hown.alloc _)
  have hv : Hid (Sv.holds r ts = Sv.hd (Sv.ev r (ts.drop 0))) := rfl
  clear hW hown hts
  go_enter Try.func61, Try.ntmps61
  go_wp2_with fail
  refine hN.mono ?_
  rintro e w1 ⟨k', h1, h2, rfl, hE, hW1, hg⟩
  clear hN
  go_wp2_with fail
  go_ret
  rw [hv.out]
  exact ⟨rfl, gb_none (gb_unalloc hg) (Nat.le_refl _)⟩

theorem rlCells_get (L : List Rl) (k : Nat) (hk : k < L.length) : (rlCells L)[k * 2]? = some L[k].v ∧ (rlCells L)[k * 2 + 1]? = some (.int .i64 L[k].k) := by
  induction L generalizing k with
  | nil => simp at hk
  | cons x r ih =>
    have e : rlCells (x :: r) = [x.v, .int .i64 x.k] ++ rlCells r := by simp [rlCells]
    rw [e]
    cases k with
    | zero => simp
    | succ k =>
      have h := ih k (by simpa using hk)
      rw [List.getElem?_append_right (by simp; omega), List.getElem?_append_right (by simp; omega)]
      have e1 : (k + 1) * 2 - [x.v, Value.int .i64 x.k].length = k * 2 := by simp; omega
      have e2 : (k + 1) * 2 + 1 - [x.v, Value.int .i64 x.k].length = k * 2 + 1 := by simp; omega
      rw [e1, e2]
      simpa using h

theorem owns_rl {w : World} {base : Nat} {pa : Option Addr} {pc n : Nat} {L : List Rl} (h : w.ownsRow base 94 2 (.slice pa n pc) L.length (rlCells L)) (k : Nat) (hk : k < L.length) :
    ∃ g, pa = some ⟨g, 0, none⟩ ∧ g < w.heap.size ∧ w.cell? ⟨g, k * 2, none⟩ = some L[k].v ∧ w.cell? ⟨g, k * 2 + 1, none⟩ = some (.int .i64 L[k].k) := by
  rcases h.2 with ⟨h1, h2⟩ | ⟨g, cap, cur, h1, h2, h3, h4, h5, h6, h7⟩
  · omega
  · simp only [Value.slice.injEq] at h1
    have hg := rlCells_get L k hk
    have e2 : ∀ j, j < L.length * 2 → (cur.toList.take (L.length * 2))[j]? = cur.toList[j]? := fun j hj => List.getElem?_take_of_lt hj
    refine ⟨g, h1.1, (Array.getElem?_eq_some_iff.1 h3).1, ?_, ?_⟩
    · have e1 : w.cell? ⟨g, k * 2, none⟩ = cur[k * 2]? := by simp [World.cell?, h3]
      rw [e1, ← hg.1, ← h7, e2 _ (by omega)]; simp
    · have e1 : w.cell? ⟨g, k * 2 + 1, none⟩ = cur[k * 2 + 1]? := by simp [World.cell?, h3]
      rw [e1, ← hg.2, ← h7, e2 _ (by omega)]; simp

set_option maxRecDepth 100000 in
set_option maxHeartbeats 1000000 in
theorem verdict_any (w : World) (pb : Nat) (L : List Rl) (d : Int) (hok : ∀ x ∈ L, x.ts.length ≤ 601 ∧ ∀ y ∈ x.ts, Sv.TmOk y) (hlen : L.length ≤ 601) (r : ByteArray) (hr : r.size = 20) (base : Nat) (pa : Option Addr) (pc : Nat)
    (hB : Blk w pb 76 #[.slice pa L.length pc, .int .i64 d])
    (hown : w.ownsRow base 94 2 (.slice pa L.length pc) L.length (rlCells L)) (hall : AllTerms w base L) :
    Calls Try.prog 52 #[.pointer (some ⟨pb, 0, none⟩), .string r] w fun e w' => e = .returned (.int .i64 (Sv.verdict r d (L.map fun x => (x.ts, x.k)))) ∧ w.grownBy w' none := by
  have hn : ∀ v : Value, v.ownBlock = none ∨ v.ownBlock ≠ none := fun v => by cases v.ownBlock <;> simp
  have HB := hid hB
  have Ho := hid hown
  have Ha := hid hall
  have Hn := hid hn
  clear hB hown hall hn
  go_enter Try.func52, Try.ntmps52
  go_wp2_with fail
  go_loopw [5] (fun i wr => ∃ k : Nat, k ≤ L.length ∧ i = .int .i64 k ∧ w.grownBy wr none ∧ Hid (Sv.verdict r d (L.map fun x => (x.ts, x.k)) = Sv.verdict r d ((L.drop k).map fun x => (x.ts, x.k)))) (fun i _ => L.length - (intOf i).toNat)
  case atStart => exact ⟨0, Nat.zero_le _, rfl, gb_refl _ _, rfl⟩
  case round =>
    obtain ⟨k, hk, rfl, hg, hV⟩ := hrel
    have B1 := HB.out.keep hg (by simp)
    have c0 := B1.cell 0
    have c1 := B1.cell 1
    simp at c0 c1
    by_cases hlt : k < L.length
    · have ho1 := Ho.out.kept hg (Hn.out _)
      obtain ⟨g, rfl, hgl, t0, t1⟩ := owns_rl ho1 k hlt
      have hE : Hid ((L.drop k).map (fun x => (x.ts, x.k)) = (L[k].ts, L[k].k) :: (L.drop (k + 1)).map (fun x => (x.ts, x.k))) := by unfold Hid; rw [List.drop_eq_getElem_cons hlt]; rfl
      have hmem := List.getElem_mem hlt
      have hokk := hok _ hmem
      have haL := (Ha.out _ hmem).kept hg (Hn.out _)
      generalize L[k] = X at *
      obtain ⟨v, ts, kk⟩ := X
      simp only at t0 t1 hokk haL
      obtain ⟨sa, sc, rfl⟩ := owns_slice haL
      have Hal := hid haL
      have Ho1 := hid ho1
      have HE := hE
      clear haL ho1 hmem
      go_wp2_with fail
      refine (holds_any _ ts hokk.2 hokk.1 r hr base sa sc Hal.out).mono ?_
      rintro e w1 ⟨rfl, hg1⟩
      have B2 := B1.keep hg1 (by simp)
      have d0 := B2.cell 0
      simp at d0
      have t1' := (World.cell?_of_block (a := ⟨g, k * 2 + 1, none⟩) (hg1.block g hgl (by simp))).trans t1
      have hcase : Hid (Sv.verdict r d ((L.drop k).map fun x => (x.ts, x.k)) = if Sv.holds r ts = true then kk else Sv.verdict r d ((L.drop (k + 1)).map fun x => (x.ts, x.k))) := by
        unfold Hid; rw [HE.out]; rfl
      clear t0 t1 c0 c1 HE hE
      cases hh : Sv.holds r ts
      · have hcase2 : Hid (Sv.verdict r d ((L.drop k).map fun x => (x.ts, x.k)) = Sv.verdict r d ((L.drop (k + 1)).map fun x => (x.ts, x.k))) := by
          unfold Hid; rw [hcase.out, hh]; rfl
        clear hcase hh
        go_wp2_with fail
        go_roundw
        case rel => exact ⟨k + 1, by omega, by go_num, gb_trans hg hg1, by unfold Hid; rw [hV.out, hcase2.out]⟩
        case measure => simp [intOf]; omega
      · have hcase2 : Hid (Sv.verdict r d ((L.drop k).map fun x => (x.ts, x.k)) = kk) := by
          unfold Hid; rw [hcase.out, hh]; rfl
        clear hcase hh
        go_wp2_with fail
        go_ret
        rw [hV.out, hcase2.out]
        exact ⟨rfl, gb_trans hg hg1⟩
    · have hkl : k = L.length := by omega
      have hE : Hid (Sv.verdict r d ((L.drop k).map fun x => (x.ts, x.k)) = d) := by unfold Hid; rw [hkl]; simp [Sv.verdict]
      have hge : L.length ≤ k := by omega
      clear hkl
      go_wp2_with fail
      go_ret
      rw [hV.out, hE.out]
      exact ⟨rfl, hg⟩
end Go.Proofs.Ytldongbimhngfaa
namespace Go.Proofs.Ytldongbimhngfaa
open Go.RowKit
set_option linter.unusedVariables false
set_option linter.unusedSimpArgs false

theorem tm0_ok (k : Int) : Sv.TmOk (Sv.tm0 k) := by refine ⟨?_, ?_, ?_, ?_, ?_, ?_⟩ <;> simp [Sv.tm0]
theorem short_ok (t : ByteArray) (s : Sv.St) (k : Int) (h0 : 0 ≤ k) (h1 : k ≤ 16) : Sv.TmOk (Sv.short t k s).1 := by
  refine ⟨h0, h1, ?_, ?_, ?_, ?_⟩ <;> simp [Sv.short]
set_option maxRecDepth 100000 in
theorem argument_ok (t : ByteArray) (s : Sv.St) (hp : s.p ≤ t.size) : Sv.TmOk (Sv.argument t s).1 := by
  have h1 := Sv_index_p t s hp
  unfold Sv.argument
  split
  · have h2 := look_pos t (Sv.index t s).2 (by omega)
    have h3 := Sv_word_p t ⟨(Sv.index t s).2.p + 1, (Sv.index t s).2.f⟩ h2
    have h4 := Sv_word_p t _ h3.1
    refine ⟨?_, ?_, h3.2.1, h3.2.2, h4.2.1, h4.2.2⟩ <;> simp only <;> omega
  · refine ⟨?_, ?_, ?_, ?_, ?_, ?_⟩ <;> simp only <;> omega
set_option maxRecDepth 100000 in
theorem term_ok (t : ByteArray) (s : Sv.St) (hp : s.p ≤ t.size) : Sv.TmOk (Sv.term t s).1 := by
  have hl := look_pos t s
  unfold Sv.term
  repeat' split
  all_goals first | exact tm0_ok _ | exact short_ok t _ _ (by omega) (by omega) | exact argument_ok t _ (hl (by omega))
theorem cond_ok (t : ByteArray) (n : Nat) : ∀ (m : Int) (s : Sv.St), s.p ≤ t.size → (∀ x ∈ (Sv.cond t n m s).1, Sv.TmOk x) ∧ (Sv.cond t n m s).1.length ≤ n := by
  induction n with
  | zero => intro m s hp; exact ⟨fun x hx => by simp [Sv.cond] at hx, by simp [Sv.cond]⟩
  | succ n ih =>
    intro m s hp
    by_cases h : 0 < m ∧ s.f = false
    · rw [cond_go t n m s h.1 h.2]
      have := ih (m - 1 + Sv.parts (Sv.term t s).1.kind) _ (Sv_term_p t s hp)
      refine ⟨fun x hx => ?_, by simpa using this.2⟩
      rcases List.mem_cons.1 hx with rfl | hx
      · exact term_ok t s hp
      · exact this.1 x hx
    · unfold Sv.cond
      rw [if_neg h]
      exact ⟨fun x hx => by simp at hx, by simp⟩
theorem rules_ok (t : ByteArray) (n : Nat) : ∀ (s : Sv.St), s.p ≤ t.size → (∀ x ∈ (Sv.rules t n s).1, x.1.length ≤ t.size + 1 ∧ ∀ y ∈ x.1, Sv.TmOk y) ∧ (Sv.rules t n s).1.length ≤ n := by
  induction n with
  | zero => intro s hp; exact ⟨fun x hx => by simp [Sv.rules] at hx, by simp [Sv.rules]⟩
  | succ n ih =>
    intro s hp
    by_cases h : Sv.look t s = 63
    · rw [rules_go t n s h]
      have hp1 : s.p + 1 ≤ t.size := look_pos t s (by omega)
      have hc := cond_ok t (t.size + 1) 1 ⟨s.p + 1, s.f⟩ hp1
      have := ih _ (Sv_rule_p t ⟨s.p + 1, s.f⟩ hp1).1
      refine ⟨fun x hx => ?_, by simpa using this.2⟩
      rcases List.mem_cons.1 hx with rfl | hx
      · exact ⟨hc.2, hc.1⟩
      · exact this.1 x hx
    · rw [rules_stop t _ s h]
      exact ⟨fun x hx => by simp at hx, by simp⟩

set_option maxHeartbeats 1000000 in
theorem isRecord_any (w : World) (r : ByteArray) (hm : r.size ≤ maxLen) :
    Calls Try.prog 51 #[.string r] w fun e w' => e = .returned (.bool (decide (r.size = 20))) ∧ w' = w := by
  unfold maxLen at hm
  by_cases h : r.size = 20
  · have e : ((r.size : Int) == 20) = true := by simp; omega
    have hv : Hid (decide (r.size = 20) = true) := by simp [Hid, h]
    clear h
    go_enter Try.func51, Try.ntmps51
    go_wp2
    go_ret
    rw [hv.out]
    exact ⟨rfl, rfl⟩
  · have e : ((r.size : Int) == 20) = false := by simp; omega
    have hv : Hid (decide (r.size = 20) = false) := by simp [Hid, h]
    clear h
    go_enter Try.func51, Try.ntmps51
    go_wp2
    go_ret
    rw [hv.out]
    exact ⟨rfl, rfl⟩

set_option maxRecDepth 100000 in
set_option maxHeartbeats 1000000 in
theorem judge_rules (w : World) (t r : ByteArray) (ht : t.size ≤ maxLen) (hm : r.size ≤ maxLen) :
    Calls Try.prog 39 #[.string t, .string r] w fun e w' => e = .returned (.tuple #[.int .i64 (Sv.judge t r).1, .int .i64 (Sv.judge t r).2]) ∧ w.grownBy w' none := by
  by_cases hl : 600 < t.size
  · have hv : Hid (Sv.judge t r = (0, 1)) := by unfold Hid Sv.judge; rw [if_pos hl]
    have hP := parse_long w t ht hl
    clear hl
    go_enter Try.func39, Try.ntmps39
    go_wp2_with fail
    refine hP.mono ?_
    rintro e w1 ⟨rfl, hg⟩
    clear hP
    go_wp2_with fail
    go_ret2
    rw [hv.out]
    exact ⟨rfl, gb_alloc hg _⟩
  · have hs : t.size ≤ 600 := by omega
    by_cases hf : (Sv.policy t ⟨0, false⟩).2.f = true
    · have hv : Hid (Sv.judge t r = (0, 2)) := by unfold Hid Sv.judge; rw [if_neg hl, if_pos hf]
      have hP := parse_form w t hs hf
      clear hl hf
      go_enter Try.func39, Try.ntmps39
      go_wp2_with fail
      refine hP.mono ?_
      rintro e w1 ⟨rfl, hg⟩
      clear hP
      go_wp2_with fail
      go_ret2
      rw [hv.out]
      exact ⟨rfl, gb_alloc hg _⟩
    · have hf' : (Sv.policy t ⟨0, false⟩).2.f = false := by simpa using hf
      have hP := parse_ok w t hs hf'
      have hR := rules_ok t (t.size + 1) ⟨0, false⟩ (Nat.zero_le _)
      have hRL : Sv.rules t (t.size + 1) ⟨0, false⟩ = Sv.ruleList t ⟨0, false⟩ := rfl
      rw [hRL] at hR
      have hR2 : (∀ x ∈ (Sv.policy t ⟨0, false⟩).1.1, x.1.length ≤ t.size + 1 ∧ ∀ y ∈ x.1, Sv.TmOk y) ∧ (Sv.policy t ⟨0, false⟩).1.1.length ≤ t.size + 1 := hR
      clear hR hRL
      have hv0 : Hid (Sv.judge t r = if r.size = 20 then (Sv.verdict r (Sv.policy t ⟨0, false⟩).1.2 (Sv.policy t ⟨0, false⟩).1.1, 0) else (0, 9)) := by
        unfold Hid Sv.judge; rw [if_neg hl, if_neg hf]
      generalize Sv.policy t ⟨0, false⟩ = X at *
      obtain ⟨⟨R, d⟩, s1⟩ := X
      simp only at hP hR2 hv0
      clear hf hf' hl
      have HR2 := hid hR2
      clear hR2
      by_cases hr : r.size = 20
      · have hv : Hid (Sv.judge t r = (Sv.verdict r d R, 0)) := by unfold Hid; rw [hv0.out, if_pos hr]
        have hI := fun w => isRecord_any w r hm
        simp only [hr, decide_true] at hI
        clear hv0
        have Hr := hid hr
        clear hr
        go_enter Try.func39, Try.ntmps39
        go_wp2_with fail
        refine hP.mono ?_
        rintro e w1 ⟨pa, pc, rfl, hg, hpol⟩
        clear hP
        go_wp2_with fail
        refine (hI _).mono ?_
        rintro e w2 ⟨rfl, rfl⟩
        clear hI
        go_wp2_with fail
        obtain ⟨L, hL1, hL2, hL3⟩ := hpol
        have hLR : R.length = L.length := by rw [← hL1]; simp
        rw [hLR] at hL2 ⊢
        refine (verdict_any _ w1.heap.size L d ?_ ?_ r Hr.out w.heap.size pa pc (Blk.new w1 _ _) (hL2.alloc _) (hL3.alloc _)).mono ?_
        · intro x hx
          have hm := HR2.out.1 (x.ts, x.k) (by rw [← hL1]; exact List.mem_map.2 ⟨x, hx, rfl⟩)
          exact ⟨by have := hm.1; simp only at this; omega, hm.2⟩
        · have := HR2.out.2; omega
        · rintro e w3 ⟨rfl, hg3⟩
          have HL1 := hid hL1
          clear hL1 hLR
          go_wp2_with fail
          go_ret2
          rw [hv.out, ← HL1.out]
          exact ⟨rfl, gb_trans (gb_alloc hg _) hg3⟩
      · have hv : Hid (Sv.judge t r = (0, 9)) := by unfold Hid; rw [hv0.out, if_neg hr]
        have hI := fun w => isRecord_any w r hm
        simp only [hr, decide_false] at hI
        clear hv0 hr
        go_enter Try.func39, Try.ntmps39
        go_wp2_with fail
        refine hP.mono ?_
        rintro e w1 ⟨pa, pc, rfl, hg, hpol⟩
        clear hP hpol
        go_wp2_with fail
        refine (hI _).mono ?_
        rintro e w2 ⟨rfl, rfl⟩
        clear hI
        go_wp2_with fail
        go_ret2
        rw [hv.out]
        exact ⟨rfl, gb_alloc hg _⟩

set_option maxHeartbeats 1000000 in
theorem judge_any (w : World) (t r : ByteArray) (ht : t.size ≤ maxLen) (hm : r.size ≤ maxLen) :
    Calls Try.prog 19 #[.string t, .string r] w fun e w' => e = .returned (.tuple #[.int .i64 (Sv.judge t r).1, .int .i64 (Sv.judge t r).2]) ∧ w.grownBy w' none := by
  have hJ := judge_rules w t r ht hm
  generalize Sv.judge t r = X at *
  obtain ⟨a, b⟩ := X
  go_enter Try.func19, Try.ntmps19
  go_wp2_with fail
  refine hJ.mono ?_
  rintro e w1 ⟨rfl, hg⟩
  clear hJ
  go_wp2_with fail
  go_ret2
  exact ⟨rfl, hg⟩
end Go.Proofs.Ytldongbimhngfaa
